import PyProof.Rows.All
import Wide.All
import OpenK.AllK
import Wide.FinOn
import Lean
import PyProof.EqAt
import PyProof.EqKinds
import PyProof.TupleCall
import PyProof.NeKinds
import KE.KDictOf
import PyProof.AttrMissSeq
import PyProof.DictList
import PyProof.WalksMore
import KE.KDictList
import PyProof.FactsAll.dict_4
import PyProof.ZipIter
import PyProof.ListRange
import OpenK.KOwn
import PyProof.Rows.CatchOwn
import KE.KIsNot
import KE.KRevIter
import PyProof.DictWalks
import PyProof.ConsumeWalk
import PyProof.TupleOfStr
import PyProof.StrOps2
import PyProof.SliceStr2
import PyProof.StrBlockI
import PyProof.Rows.StrClose5
import PyProof.Rows.CatFin
import KE.KIsAll
import KE.KSortTup
import PyProof.MeetsStr
import PyProof.MeetsStr2
import PyProof.StrLawsIn
import PyProof.Rows.StrLawsPart
import PyProof.Rows.StrRev
import PyProof.Draws
import PyProof.EnumMake
import PyProof.Rows.CountFlat
import PyProof.CallStr
import PyProof.FitsInt
import PyProof.PureStr
import PyProof.FString5
import PyProof.Rows.StrNews2
import PyProof.Rows.SortShell
import PyProof.ListStr
import PySem.Challenge.RW_linegrow_k41_unwound
set_option Elab.async false
set_option linter.all false
set_option maxRecDepth 100000
set_option maxHeartbeats 4000000
namespace L2
open PySem PySem.Spec PyProof.Rows
abbrev Key:=Sum Int Str
def keyIs:Key→Value→Bool
  | .inl k,v=>Value.isInt k v
  | .inr x,v=>Value.isStrOf x v
def keyH (w:World):Key→Int
  | .inl k=>hashInt k
  | .inr x=>hashStr w x
theorem keyIs_shape:∀ {k:Key} {v:Value},keyIs k v=true→(∃ i t,k=Sum.inl i∧v=Value.int i t)∨(∃ x t,k=Sum.inr x∧v=Value.str x t)
  | .inl i,v,h=>by
    obtain ⟨t,e⟩:=Value.isInt_shape (k:=i) (v:=v) h
    exact .inl ⟨i,t,rfl,e⟩
  | .inr x,v,h=>by
    obtain ⟨t,e⟩:=Value.isStrOf_shape (x:=x) (v:=v) h
    exact .inr ⟨x,t,rfl,e⟩
theorem key_ll (a b:Int):decide ((Sum.inl a:Key)=Sum.inl b)=(a == b):=by
  by_cases e:a=b
  · subst e;simp
  · have h:¬ (Sum.inl a:Key)=Sum.inl b:=fun q=>e (Sum.inl.inj q)
    rw [decide_eq_false h]
    exact (beq_eq_false_iff_ne.mpr e).symm
theorem key_rr (a b:Str):decide ((Sum.inr a:Key)=Sum.inr b)=decide (a=b):=by
  by_cases e:a=b
  · subst e;simp
  · have h:¬ (Sum.inr a:Key)=Sum.inr b:=fun q=>e (Sum.inr.inj q)
    rw [decide_eq_false h,decide_eq_false e]
theorem key_lr (a:Int) (b:Str):decide ((Sum.inl a:Key)=Sum.inr b)=false:=decide_eq_false (fun q=>nomatch q)
theorem key_rl (a:Str) (b:Int):decide ((Sum.inr a:Key)=Sum.inl b)=false:=decide_eq_false (fun q=>nomatch q)
def mixKind (prog:Program) (w:World):PySem.KeyKind prog w Key where
  is:=keyIs
  hash:=keyH w
  inj:=fun v a b ha hb=>by
    rcases keyIs_shape ha with ⟨i,t,rfl,rfl⟩ | ⟨x,t,rfl,rfl⟩
    · rcases keyIs_shape hb with ⟨j,u,rfl,e⟩ | ⟨y,u,rfl,e⟩
      · injection e with e1 _;rw [e1]
      · exact nomatch e
    · rcases keyIs_shape hb with ⟨j,u,rfl,e⟩ | ⟨y,u,rfl,e⟩
      · exact nomatch e
      · injection e with e1 _;rw [e1]
  byValue:=fun k v h=>by
    rcases keyIs_shape h with ⟨i,t,rfl,rfl⟩ | ⟨x,t,rfl,rfl⟩ <;> rfl
  pyHash:=fun hv h=>by
    rcases keyIs_shape hv with ⟨i,t,rfl,rfl⟩ | ⟨x,t,rfl,rfl⟩
    · exact wpAny_pyHash_int h
    · exact wpAny_pyHash_str h
  eqBool:=fun hu hv h=>by
    rcases keyIs_shape hu with ⟨i,t,rfl,rfl⟩ | ⟨x,t,rfl,rfl⟩
    · rcases keyIs_shape hv with ⟨j,u,rfl,rfl⟩ | ⟨y,u,rfl,rfl⟩
      · rw [key_ll] at h;exact wpAny_eqBool_int h
      · rw [key_lr] at h;exact SeqAt.EqAt.int_str i t y u _ _ _ _ h
    · rcases keyIs_shape hv with ⟨j,u,rfl,rfl⟩ | ⟨y,u,rfl,rfl⟩
      · rw [key_rl] at h;exact SeqAt.EqAt.str_int x t j u _ _ _ _ h
      · rw [key_rr] at h;exact wpAny_eqBool_str h
  «strs»:=fun k x t v h=>by
    rcases keyIs_shape h with ⟨i,u,rfl,e⟩ | ⟨y,u,rfl,e⟩
    · exact nomatch e
    · injection e with e1 _
      subst e1
      cases v <;> rfl
end L2
namespace L2
open PySem PySem.Spec PyProof.Rows
inductive V where
  | non | bl (b:Bool) | int (i:Int) | str (x:Str) | byt (b:Array UInt8) | flt (b:UInt64) | ref (a:Addr) | ty (n:String)
  deriving DecidableEq
def RelV:V→Value→Prop
  | .non,u=>u=Value.none
  | .bl b,u=>u=Value.bool b
  | .int i,u=>∃ t,u=Value.int i t
  | .str x,u=>∃ t,u=Value.str x t
  | .byt b,u=>∃ t,u=Value.bytes b t
  | .flt b,u=>∃ t,u=Value.float b t
  | .ref a,u=>u=Value.ref a
  | .ty n,u=>u=Value.type n
abbrev Vals:List V→List Value→Prop:=Paired RelV
theorem Vals.length {xs:List V} {us:List Value} (r:Vals xs us):xs.length=us.length:=Paired.length r
theorem Vals.get:∀ {xs:List V} {us:List Value} {i:Nat} {x:V},Vals xs us→xs[i]? = some x→∃ u,us[i]? = some u∧RelV x u
  | _,_,_,_,.nil,e=>by simp at e
  | _,_,0,_,.cons r _,e=>by simp at e;subst e;exact ⟨_,rfl,r⟩
  | _,_,i+1,x,.cons _ t,e=>by
    obtain ⟨u,h1,h2⟩:=Vals.get (i:=i) (x:=x) t (by simpa using e)
    exact ⟨u,by simpa using h1,h2⟩
theorem Vals.set {x:V} {u:Value} (r:RelV x u):∀ {xs:List V} {us:List Value} (i:Nat),Vals xs us→Vals (xs.set i x) (us.set i u)
  | _,_,_,.nil=>.nil
  | _,_,0,.cons _ t=>.cons r t
  | _,_,i+1,.cons q t=>.cons q (Vals.set r i t)
theorem Vals.append:∀ {xs ys:List V} {us ws:List Value},Vals xs us→Vals ys ws→Vals (xs++ys) (us++ws)
  | _,_,_,_,.nil,s=>s
  | _,_,_,_,.cons r t,s=>.cons r (Vals.append t s)
theorem Vals.take:∀ {xs:List V} {us:List Value} (n:Nat),Vals xs us→Vals (xs.take n) (us.take n)
  | _,_,0,_=>.nil
  | _,_,_+1,.nil=>.nil
  | _,_,n+1,.cons r t=>.cons r (Vals.take n t)
theorem Vals.drop:∀ {xs:List V} {us:List Value} (n:Nat),Vals xs us→Vals (xs.drop n) (us.drop n)
  | _,_,0,r=>r
  | _,_,_+1,.nil=>.nil
  | _,_,n+1,.cons _ t=>Vals.drop n t
def RelO:Option V→Option Value→Prop
  | some v,some u=>RelV v u
  | none,none=>True
  | _,_=>False
def KV {κ:Type}:List (κ × V)→List (κ × Value)→Prop:=Paired fun (p:κ × V) (q:κ × Value)=>p.1=q.1∧RelV p.2 q.2
def kV:Key→V
  | .inl i=>.int i
  | .inr x=>.str x
inductive HO where
  /-- a list -/
  | lst (xs:List V)
  /-- a tuple (never changes) -/
  | tup (xs:List V)
  /-- a dict whose keys are ints and texts;one whose keys are tuples of ints and texts (the empty one is both) -/
  | dK (kvs:List (Key × V)) | dT (kvs:List (List Key × V))
  /-- a set of ints: its members,its size -/
  | set (S:Int→Bool) (n:Nat)
  /-- an instance of the class at C,its dict at dx,its attributes -/
  | ins (C dx:Addr) (fs:List (Str × V))
  /-- the dict of the instance at x -/
  | own (x:Addr)
  /-- the dict of an exception -/
  | xd (fs:List (Str × V))
  /-- a bound method,f of x -/
  | met (f x:Addr)
  /-- a range object lo,lo+1,.. below hi -/
  | rng (lo hi:Int)
  /-- a thing that is known to the object (the script;a dict while a loop walks it): read,never written while it is so -/
  | frz (o:Obj) (u:HO)
  /-- a code object's table -/
  | tbl (ps:Array Value)
  /-- any other thing,by what is true of its one object (a def of one's own: SetO a S n:=HO.ext fun h=>..) -/
  | ext (φ:Heap→Prop)
abbrev Hp:=Addr→Option HO
def upd (H:Hp) (a:Addr) (o:HO):Hp:=fun b=>if b=a then some o else H b
theorem upd_same {H:Hp} {a:Addr} {o:HO}:upd H a o a=some o:=by unfold upd;rw [if_pos rfl]
theorem upd_ne {H:Hp} {a b:Addr} {o:HO} (h:b≠a):upd H a o b=H b:=by unfold upd;rw [if_neg h]
theorem ne_of_none {H:Hp} {a b:Addr} {o:HO} (h:H a=some o) (h':H b=none):a≠b:=by
  intro e;subst e;rw [h] at h';cases h'
section
variable (P:Program) (w:World)
def Bare (h:Heap) (a:Addr):Prop:=∃ o,h.get? a=some o∧o.dict=none
def ObjOk (H:Hp) (h:Heap) (a:Addr):HO→Prop
  | .lst xs=>xs.length≤sizeLine∧∃ (its:List Value) (n:Nat),Vals xs its∧h.get? a=some { cls:=.type "list",data:=.seq its.toArray n }
  | .tup xs=>xs.length≤sizeLine∧∃ its:List Value,Vals xs its∧IsTup h a its.toArray∧Bare h a
  | .dK kvs=>kvs.length≤sizeLine∧(a == sysModules)=false∧∃ vs,KV kvs vs∧h.DictOf (mixKind P w) a vs
  | .dT kvs=>kvs.length≤sizeLine∧(a == sysModules)=false∧∃ xs:List (List Key × Addr × Value),
      Paired (fun (p:List Key × V) (q:List Key × Addr × Value)=>p.1=q.1∧H q.2.1=some (.tup (p.1.map kV))∧RelV p.2 q.2.2) kvs xs ∧
      ∃ o es ep,h.get? a=some o∧o.ExactDict∧o.data=.dict es ep∧es.toList=xs.map (entryOfKey (tupleKind (mixKind P w)))∧(xs.map (·.1)).Nodup
  | .set S n=>h.SetOf (intKind P w) a S n
  | .ins C dx fs=>H dx=some (.own a)∧fs.length≤1000∧dx≠a∧h.get? a=some (PySem.W.instObj C dx) ∧
      ∃ mA,h.Ns1 dx mA∧(∀ f,RelO (fs.lookup f) (mA f))∧PySem.Within mA (fs.map (·.1))
  | .own _=>∃ o,h.get? a=some o
  | .xd fs=>∃ mA,h.Ns1 a mA∧∀ f,RelO (fs.lookup f) (mA f)
  | .rng lo hi=>∃ t u v,h.get? a=some { cls:=.type "range",data:=.fields #[.int lo t,.int hi u,.int 1 v] }
  | .frz o u=>h.get? a=some o∧ObjOk H h a u
  | .tbl ps=>h.get? a=some { cls:=.none,data:=.fields ps }
  | .met f x=>h.get? a=some (PySem.W.methodObj (.ref f) (.ref x))
  | .ext φ=>φ h∧(∃ o,h.get? a=some o)∧∀ h1 h2:Heap,φ h1→(∀ o,h1.get? a=some o→h2.get? a=some o)→φ h2
def HOk (H:Hp) (h:Heap):Prop:=∀ a o,H a=some o→ObjOk P w H h a o
end
section
variable {P:Program} {w:World} {H H':Hp} {h h':Heap} {a:Addr} {o:HO}
theorem ObjOk.lt (x:ObjOk P w H h a o):a < h.objs.size:=by
  cases o with
  | lst xs=>obtain ⟨_,_,_,_,e⟩:=x;exact Heap.lt_size e
  | tup xs=>obtain ⟨_,_,_,p,_⟩:=x;exact p.lt
  | dK kvs=>obtain ⟨_,_,_,_,o,_,_,e,_⟩:=x;exact Heap.lt_size e
  | dT kvs=>obtain ⟨_,_,_,_,o,_,_,e,_⟩:=x;exact Heap.lt_size e
  | set S n=>obtain ⟨o,_,_,_,e,_⟩:=x;exact Heap.lt_size e
  | ins C dx fs=>obtain ⟨_,_,_,e,_⟩:=x;exact Heap.lt_size e
  | own y=>obtain ⟨_,e⟩:=x;exact Heap.lt_size e
  | xd fs=>obtain ⟨_,⟨_,_,_,e,_⟩,_⟩:=x;exact Heap.lt_size e
  | rng lo hi=>obtain ⟨_,_,_,e⟩:=x;exact Heap.lt_size e
  | frz ob u=>obtain ⟨e,_⟩:=x;exact Heap.lt_size e
  | tbl ps=>exact Heap.lt_size (show h.get? a=some _ from x)
  | met f y=>exact Heap.lt_size (show h.get? a=some _ from x)
  | ext φ=>obtain ⟨_,⟨_,e⟩,_⟩:=x;exact Heap.lt_size e
theorem Paired.mapP {α β:Type} {F G:α→β→Prop}:∀ {l₁:List α} {l₂:List β},Paired F l₁ l₂→(∀ a b,F a b→G a b)→Paired G l₁ l₂
  | _,_,.nil,_=>.nil
  | _,_,.cons r t,f=>.cons (f _ _ r) (Paired.mapP t f)
theorem ObjOk.stay (x:ObjOk P w H h a o) (k:∀ b u,(b=a∨H b=some (.own a))→h.get? b=some u→h'.get? b=some u)
    (ho:∀ b,H b=some (.own a)→H' b=some (.own a)) (ht:∀ b xs,H b=some (.tup xs)→H' b=some (.tup xs)):ObjOk P w H' h' a o:=by
  induction o with
  | lst xs=>obtain ⟨z,its,n,r,e⟩:=x;exact ⟨z,its,n,r,k _ _ (.inl rfl) e⟩
  | tup xs=>obtain ⟨z,its,r,⟨ob,e,c⟩,o2,e2,c2⟩:=x;exact ⟨z,its,r,⟨ob,k _ _ (.inl rfl) e,c⟩,o2,k _ _ (.inl rfl) e2,c2⟩
  | dK kvs=>obtain ⟨z,y,vs,r,ob,es,ep,e,c⟩:=x;exact ⟨z,y,vs,r,ob,es,ep,k _ _ (.inl rfl) e,c⟩
  | dT kvs =>
    obtain ⟨z,y,xs,r,ob,es,ep,e,c⟩:=x
    exact ⟨z,y,xs,Paired.mapP r fun p q z=>⟨z.1,ht _ _ z.2.1,z.2.2⟩,ob,es,ep,k _ _ (.inl rfl) e,c⟩
  | set S n=>obtain ⟨ob,es,ep,t,e,c⟩:=x;exact ⟨ob,es,ep,t,k _ _ (.inl rfl) e,c⟩
  | ins C dx fs =>
    obtain ⟨d,z,ne,e,mA,⟨od,es,ep,e2,c⟩,r⟩:=x
    exact ⟨ho _ d,z,ne,k _ _ (.inl rfl) e,mA,⟨od,es,ep,k _ _ (.inr d) e2,c⟩,r⟩
  | own y=>obtain ⟨ob,e⟩:=x;exact ⟨ob,k _ _ (.inl rfl) e⟩
  | xd fs=>obtain ⟨mA,⟨od,es,ep,e,c⟩,r⟩:=x;exact ⟨mA,⟨od,es,ep,k _ _ (.inl rfl) e,c⟩,r⟩
  | rng lo hi=>obtain ⟨t,u,v,e⟩:=x;exact ⟨t,u,v,k _ _ (.inl rfl) e⟩
  | frz ob u ih=>obtain ⟨e,q⟩:=x;exact ⟨k _ _ (.inl rfl) e,ih q⟩
  | tbl ps =>
    have e:h.get? a=some { cls:=.none,data:=.fields ps }:=x
    show h'.get? a=some { cls:=.none,data:=.fields ps }
    exact k a _ (.inl rfl) e
  | met f y =>
    have e:h.get? a=some (PySem.W.methodObj (.ref f) (.ref y)):=x
    show h'.get? a=some (PySem.W.methodObj (.ref f) (.ref y))
    exact k a _ (.inl rfl) e
  | ext φ=>obtain ⟨p,⟨o,e⟩,st⟩:=x;exact ⟨st _ _ p fun o q=>k _ _ (.inl rfl) q,⟨o,k _ _ (.inl rfl) e⟩,st⟩
theorem HOk.lt (x:HOk P w H h) (e:H a=some o):a < h.objs.size:=(x a o e).lt
theorem HOk.fresh (x:HOk P w H h) (e:h.objs.size≤a):H a=none:=by
  cases q:H a with
  | none=>rfl
  | some u=>exact absurd (Nat.lt_of_lt_of_le (x.lt q) e) (Nat.lt_irrefl _)
theorem HOk.kept (x:HOk P w H h) (k:∀ b u,h.get? b=some u→h'.get? b=some u):HOk P w H h':=fun a o e =>
  (x a o e).stay (fun b u _ q=>k b u q) (fun _ q=>q) fun _ _ q=>q
theorem HOk.laid (x:HOk P w H h) (k:∀ b u,h.get? b=some u→h'.get? b=some u) (hp:h.objs.size≤a) (new:ObjOk P w (upd H a o) h' a o):HOk P w (upd H a o) h':=fun b u e=>by
  have hn:=x.fresh hp
  by_cases hb:b=a
  · subst hb;rw [upd_same] at e;cases e;exact new
  · rw [upd_ne hb] at e
    exact (x b u e).stay (fun c v _ q=>k c v q) (fun c q=>by rw [upd_ne (ne_of_none q hn)];exact q) fun c xs q=>by rw [upd_ne (ne_of_none q hn)];exact q
end
def Rd (H:Hp) (a:Addr) (u:HO):Prop:=H a=some u∨∃ o,H a=some (.frz o u)
theorem Rd.of {H:Hp} {a:Addr} {u:HO} (h:H a=some u):Rd H a u:=.inl h
theorem Rd.ok {P:Program} {w:World} {H:Hp} {h:Heap} {a:Addr} {u:HO} (r:Rd H a u) (x:HOk P w H h):ObjOk P w H h a u:=by
  rcases r with r | ⟨o,r⟩
  · exact x a u r
  · obtain ⟨_,q⟩:=x a _ r
    exact q
def Mut:Option HO→Prop
  | some (.lst _)=>True
  | some (.dK _)=>True
  | some (.dT _)=>True
  | some (.set _ _)=>True
  | some (.ins _ _ _)=>True
  | some (.ext _)=>True
  | _=>False
section
variable {P:Program} {w:World} {H:Hp} {h h':Heap} {x e:Addr} {o':HO}
theorem HOk.write (ok:HOk P w H h) (mu:Mut (H x)) (he:e=x∨H e=some (.own x)) (k:∀ b u,b≠e→h.get? b=some u→h'.get? b=some u) (heo:∃ u,h'.get? e=some u)
    (new:ObjOk P w (upd H x o') h' x o'):HOk P w (upd H x o') h':=fun b u q=>by
  have nown:∀ c y,H c=some (.own y)→c≠x:=fun c y r z=>by subst z;rw [r] at mu;exact mu
  have ntup:∀ c xs,H c=some (.tup xs)→c≠x:=fun c xs r z=>by subst z;rw [r] at mu;exact mu
  by_cases hb:b=x
  · subst hb;rw [upd_same] at q;cases q;exact new
  · rw [upd_ne hb] at q
    by_cases hbe:b=e
    · have q':H b=some (.own x):=by
        rcases he with z | z
        · exact absurd (hbe.trans z) hb
        · rw [hbe];exact z
      rw [q] at q';cases q'
      obtain ⟨v,hv⟩:=heo
      exact ⟨v,by rw [hbe];exact hv⟩
    · refine (ok b u q).stay (fun c v hc r=>k c v ?_ r) (fun c r=>by rw [upd_ne (nown c b r)];exact r) fun c xs r=>by rw [upd_ne (ntup c xs r)];exact r
      rcases hc with rfl | hc
      · exact hbe
      · rintro rfl
        rcases he with z | z
        · exact nown c b hc z
        · rw [hc] at z;cases z;exact hb rfl
end
structure Un (fs ex:List Addr) (H H':Hp) (h h':Heap):Prop where
  keep:∀ b o,h.get? b=some o→H b=none→b ∉ fs→b ∉ ex→h'.get? b=some o
  slot:∀ b o,h.get? b=some o→H b=none→b∈fs→b ∉ ex→∃ sl,h'.get? b=some { o with slots:=sl }
  free:∀ b o,h.get? b=some o→H b=none→b ∉ ex→H' b=none
  there:∀ b o,h.get? b=some o→b ∉ ex→∃ o',h'.get? b=some o'
  tups:∀ b xs,H b=some (.tup xs)→H' b=some (.tup xs)
  frzs:∀ b o u,H b=some (.frz o u)→H' b=some (.frz o u)
  tbls:∀ b ps,H b=some (.tbl ps)→∃ more,H' b=some (.tbl (ps++more))
section
variable {fs fs' ex ex':List Addr} {H H1 H2:Hp} {h h1 h2 h':Heap} {a x e:Addr} {o:HO}
theorem Un.any (u:Un fs ex H H1 h h1) {b:Addr} {ob:Obj} (q:h.get? b=some ob) (n:H b=none) (hx:b ∉ ex):∃ sl,h1.get? b=some { ob with slots:=sl }:=by
  by_cases hb:b∈fs
  · exact u.slot b ob q n hb hx
  · exact ⟨ob.slots,u.keep b ob q n hb hx⟩
theorem Un.trans (a:Un fs ex H H1 h h1) (b:Un fs ex H1 H2 h1 h2):Un fs ex H H2 h h2 where
  keep:=fun c ob q n hc hx=>b.keep c ob (a.keep c ob q n hc hx) (a.free c ob q n hx) hc hx
  slot:=fun c ob q n hc hx=>by
    obtain ⟨sl,e1⟩:=a.slot c ob q n hc hx
    obtain ⟨sl',e2⟩:=b.slot c _ e1 (a.free c ob q n hx) hc hx
    exact ⟨sl',e2⟩
  free:=fun c ob q n hx=>by
    obtain ⟨o',e1⟩:=a.there c ob q hx
    exact b.free c o' e1 (a.free c ob q n hx) hx
  there:=fun c ob q hx=>by
    obtain ⟨o',e1⟩:=a.there c ob q hx
    exact b.there c o' e1 hx
  tups:=fun c xs q=>b.tups c xs (a.tups c xs q)
  frzs:=fun c ob xs q=>b.frzs c ob xs (a.frzs c ob xs q)
  tbls:=fun c ps q=>by
    obtain ⟨m1,e1⟩:=a.tbls c ps q
    obtain ⟨m2,e2⟩:=b.tbls c _ e1
    exact ⟨m1++m2,by rw [e2,Array.append_assoc]⟩
theorem Un.kept (k:∀ b u,h.get? b=some u→h'.get? b=some u):Un fs ex H H h h' :=
  ⟨fun b ob q _ _ _=>k b ob q,fun b ob q _ _ _=>⟨ob.slots,k b ob q⟩,fun _ _ _ n _=>n,fun b ob q _=>⟨ob,k b ob q⟩,fun _ _ q=>q,fun _ _ _ q=>q,fun _ ps q=>⟨#[],by rw [q];simp⟩⟩
theorem Un.refl:Un fs ex H H h h:=Un.kept fun _ _ q=>q
theorem Un.laid (k:∀ b u,h.get? b=some u→h'.get? b=some u) (hp:h.objs.size≤a) (hn:H a=none):Un fs ex H (upd H a o) h h' where
  keep:=fun b u q _ _ _=>k b u q
  slot:=fun b u q _ _ _=>⟨u.slots,k b u q⟩
  free:=fun b u q n _=>by rw [upd_ne (Nat.ne_of_lt (Nat.lt_of_lt_of_le (Heap.lt_size q) hp))];exact n
  there:=fun b u q _=>⟨u,k b u q⟩
  tups:=fun b xs q=>by rw [upd_ne (ne_of_none q hn)];exact q
  frzs:=fun b u xs q=>by rw [upd_ne (ne_of_none q hn)];exact q
  tbls:=fun b ps q=>⟨#[],by rw [upd_ne (ne_of_none q hn),q];simp⟩
theorem Un.write (mu:Mut (H x)) (he:e=x∨H e=some (.own x)) (k:∀ b u,b≠e→h.get? b=some u→h'.get? b=some u) (heo:∃ u,h'.get? e=some u):Un fs ex H (upd H x o) h h':=by
  have hx:∀ b,H b=none→b≠x:=fun b n z=>by subst z;rw [n] at mu;exact mu
  have hb:∀ b,H b=none→b≠e:=fun b n z=>by
    subst z
    rcases he with r | r
    · exact hx b n r
    · rw [n] at r;cases r
  have hm:∀ b u,H b=some u→¬ Mut (some u)→b≠x:=fun b u q nm z=>by subst z;rw [q] at mu;exact nm mu
  refine ⟨fun b u q n _ _=>k b u (hb b n) q,fun b u q n _ _=>⟨u.slots,k b u (hb b n) q⟩,fun b u q n _=>by rw [upd_ne (hx b n)];exact n,fun b u q _=>?_,
    fun b xs q=>by rw [upd_ne (hm b _ q fun z=>z)];exact q,fun b u xs q=>by rw [upd_ne (hm b _ q fun z=>z)];exact q,fun b ps q=>⟨#[],by rw [upd_ne (hm b _ q fun z=>z),q];simp⟩⟩
  by_cases hbe:b=e
  · subst hbe;exact heo
  · exact ⟨u,k b u hbe q⟩
theorem Un.mono (u:Un fs ex H H1 h h1) (hs:∀ b∈fs,b∈fs') (hx:∀ b∈ex,b∈ex'):Un fs' ex' H H1 h h1 :=
  ⟨fun b ob q n hb he=>u.keep b ob q n (fun z=>hb (hs b z)) fun z=>he (hx b z),fun _ _ q n _ he=>u.any q n fun z=>he (hx _ z),fun b ob q n he=>u.free b ob q n fun z=>he (hx b z),fun b ob q he=>u.there b ob q fun z=>he (hx b z),u.tups,u.frzs,u.tbls⟩
end
def trk (h:Heap) (H:Hp):List Addr:=(List.range h.objs.size).filter fun a=>(H a).isSome
def hidT (h:Heap) (H:Hp):Heap:=PySem.W.hideAll h (trk h H)
theorem hidT_size (h:Heap) (H:Hp):(hidT h H).objs.size=h.objs.size:=PySem.W.hideAll_size _ _
theorem hidT_get {h:Heap} {H:Hp} {b:Addr} {o:Obj} (e:h.get? b=some o) (n:H b=none):(hidT h H).get? b=some o :=
  PySem.W.hideAll_get _ e fun hm=>by
    have q:(H b).isSome=true:=(List.mem_filter.mp hm).2
    rw [n] at q;simp at q
theorem of_hidT {h:Heap} {H:Hp} {b:Addr} {o:Obj} (e:(hidT h H).get? b=some o):h.get? b=some o∧H b=none:=by
  have e':h.get? b=some o:=PySem.W.of_hideAll (trk h H) e
  refine ⟨e',?_⟩
  cases q:H b with
  | none=>rfl
  | some x =>
    have hm:b∈trk h H:=List.mem_filter.mpr ⟨List.mem_range.mpr (Heap.lt_size e'),by simp [q]⟩
    have z:(hidT h H).get? b=none:=PySem.W.hideAll_none (trk h H) hm
    rw [z] at e;cases e
def allNews (g h:Heap) (L:Addr):List (Addr × Obj):=(List.range h.objs.size).filterMap fun a=>if a=L∨(g.get? a).isSome=true then none else (h.get? a).map fun o=>(a,o)
def rest (g h:Heap) (L d:Addr):List (Addr × Obj):=(allNews g h L).filter fun p=>decide (p.1≠d)
end L2
namespace L2
open PySem PySem.Spec PyProof.Rows
structure Mod (K:PySem.W.Frag) (mg:Str→Option Value) (base:Heap):Prop where
  kin:K.In base
  glob:base.Ns mainGlobals mg
  blt:∃ mb,base.Ns builtinsNs mb∧∀ x:Str,x≠"__name__"→mb x=bootBuiltins x
  nolimit:base.NoLimit
structure Cx where
  prog:Program
  w:World
  K:PySem.W.Frag
  mg:Str→Option Value
  base:Heap
  A:Around
  N:List Str
  s₀:Shared
  H₀:Hp
  env:Env
  outer:List Env
  stack:List Env
  ex:List Addr
  fn:Str→Bool
  calm:Bool
  pn:List (Addr × Obj)
  xe:Value→Shared→Prop
def frs (l:List Env):List Addr:=l.filterMap (·.frame)
abbrev Cx.fs (X:Cx):List Addr:=frs X.outer
def Vis (sc:Scope) (x:Str):Prop:=sc.names.lookup x=some .local∨sc.names.lookup x=some .cell∨sc.names.lookup x=some .free
def Loc (sc:Scope) (x:Str):Prop:=sc.names.lookup x=some .local∨sc.names.lookup x=some .cell
def Look (env:Env) (h:Heap) (m:Str→Option Value) (x:Str) (u:Value):Prop :=
  (env.kindOf x=some .local∧m x=some u)∨((env.kindOf x=some .cell∨env.kindOf x=some .free)∧∃ c,env.cells.lookup x=some c∧h.IsCell c (some u))
structure Cx.Ok (X:Cx):Prop where
  mod:Mod X.K X.mg X.base
  kind:X.env.scope.kind=.function
  glob:X.env.globals=mainGlobals
  blt:X.env.builtins=builtinsNs
  above:X.s₀.heap.objs.size≤X.env.locals
  inj:∀ x y c,X.env.cells.lookup x=some c→X.env.cells.lookup y=some c→x=y
  has:∀ x,(X.env.kindOf x=some .cell∨X.env.kindOf x=some .free)→∃ c,X.env.cells.lookup x=some c
  cab:∀ x c,X.fn x=true→X.env.cells.lookup x=some c→X.s₀.heap.objs.size≤c
  hd:X.calm=true→X.A.handled=none
  frames:X.A.frames=some X.stack
  stk:X.stack=X.outer∨(X.stack=X.env :: X.outer∧X.env.frame=some X.env.locals)
  exf:∀ b∈X.ex,b≠X.env.locals∧∀ x c,X.env.cells.lookup x=some c→c≠b
  bs:∀ b o,X.base.get? b=some o→X.s₀.heap.get? b=some o∧X.H₀ b=none
  bsz:X.base.objs.size≤X.s₀.heap.objs.size
  noex:∀ b o,X.base.get? b=some o→b ∉ X.ex
  exfs:∀ b∈X.ex,b ∉ X.fs
  funs:X.s₀.heap.FunFrames X.base X.outer
  frf:∀ b∈X.fs,X.H₀ b=none
structure Inv (X:Cx) (pins:List (Addr × Obj)) (σ:List (Option V)) (H:Hp) (s:Shared):Prop where
  ok:X.Ok
  os:s.os=X.s₀.os
  bare:AllBare s.gens
  base:Un X.fs X.ex X.H₀ H X.s₀.heap s.heap
  loc:∃ m,s.heap.Ns X.env.locals m∧∀ (i:Nat) (x:Str) (v:V),X.N[i]? = some x→σ[i]? = some (some v)→Vis X.env.scope x→∃ u,RelV v u∧Look X.env s.heap m x u
  cell:∀ x c,X.env.cells.lookup x=some c→∃ v,s.heap.IsCell c v
  free:H X.env.locals=none
  freeC:∀ x c,X.env.cells.lookup x=some c→H c=none
  pin:∀ p∈X.pn++pins,s.heap.get? p.1=some p.2∧H p.1=none∧p.1≠X.env.locals∧p.1 ∉ X.fs∧∀ v,p.2.data≠.cell v
  hok:HOk X.prog X.w H s.heap
  len:σ.length=X.N.length
section
variable {X:Cx} {pins:List (Addr × Obj)} {σ:List (Option V)} {H H':Hp} {s:Shared} {h':Heap}
theorem Cx.Ok.nofr (ok:X.Ok) {b:Addr} {o:Obj} (e:X.base.get? b=some o):b ∉ X.fs:=fun hb=>by
  have:=(ok.funs.mem hb).1
  rw [e] at this;cases this
theorem Inv.bs (I:Inv X pins σ H s):∀ b o,X.base.get? b=some o→s.heap.get? b=some o∧H b=none:=fun b o e =>
  ⟨I.base.keep b o (I.ok.bs b o e).1 (I.ok.bs b o e).2 (I.ok.nofr e) (I.ok.noex b o e),I.base.free b o (I.ok.bs b o e).1 (I.ok.bs b o e).2 (I.ok.noex b o e)⟩
theorem Inv.bk (I:Inv X pins σ H s):∀ b o,X.base.get? b=some o→s.heap.get? b=some o:=fun b o e=>(I.bs b o e).1
theorem Inv.mod (I:Inv X pins σ H s):Mod X.K X.mg X.base:=I.ok.mod
theorem Inv.kIn (I:Inv X pins σ H s):X.K.In s.heap:=I.ok.mod.kin.keeps I.bk
theorem Inv.nolimit (I:Inv X pins σ H s):s.heap.NoLimit:=I.ok.mod.nolimit.keeps I.bk
theorem Inv.fr (I:Inv X pins σ H s):∃ m,Fr X.base X.env.locals s.heap m :=
  let ⟨m,hn,_⟩:=I.loc
  ⟨m,hn,I.bk,Nat.le_trans I.ok.bsz I.ok.above⟩
theorem Inv.lt (I:Inv X pins σ H s):X.env.locals < s.heap.objs.size:=let ⟨_,hn,_⟩:=I.loc;hn.lt
theorem Inv.sz (I:Inv X pins σ H s):X.s₀.heap.objs.size≤s.heap.objs.size:=Nat.le_trans I.ok.above (Nat.le_of_lt I.lt)
theorem Inv.nofs (I:Inv X pins σ H s) {a:Addr} (h:s.heap.objs.size≤a):a ∉ X.fs:=fun hb=>by
  obtain ⟨_,o,ho,_⟩:=I.ok.funs.mem hb
  exact absurd (Nat.lt_of_lt_of_le (Heap.lt_size ho) (Nat.le_trans I.sz h)) (Nat.lt_irrefl _)
theorem Inv.cne (I:Inv X pins σ H s):∀ x c,X.env.cells.lookup x=some c→c≠X.env.locals:=fun x c e z=>by
  obtain ⟨v,o,ho,hd⟩:=I.cell x c e
  obtain ⟨m,⟨o',es,ep,ho',hd',_⟩,_⟩:=I.loc
  rw [z,ho'] at ho;cases ho;rw [hd'] at hd;cases hd
theorem Inv.funs (I:Inv X pins σ H s):s.heap.FunFrames X.base X.outer:=by
  have all:∀ (l:List Env),(∀ b∈frs l,b∈X.fs)→X.s₀.heap.FunFrames X.base l→s.heap.FunFrames X.base l:=by
    intro l
    induction l with
    | nil=>intro _ _;trivial
    | cons env r ih =>
      intro hs hl
      obtain ⟨hk,⟨L,o,hf,hn,ho,hd⟩,hr⟩:=hl
      have hL:L∈X.fs:=hs L (by unfold frs;rw [List.filterMap_cons,hf];exact List.mem_cons_self)
      obtain ⟨sl,e⟩:=I.base.slot L o ho (I.ok.frf L hL) hL fun z=>I.ok.exfs L z hL
      exact ⟨hk,⟨L,_,hf,hn,e,hd⟩,ih (fun b hb=>hs b (by unfold frs;rw [List.filterMap_cons,hf];exact List.mem_cons_of_mem _ hb)) hr⟩
  exact all X.outer (fun _ hb=>hb) I.ok.funs
theorem Inv.stack (I:Inv X pins σ H s):s.heap.FunFrames X.base X.stack:=by
  rcases I.ok.stk with e | ⟨e,hf⟩
  · rw [e];exact I.funs
  · rw [e]
    obtain ⟨m,hn,_⟩:=I.loc
    refine .cons (by rw [I.ok.kind];decide) hf hn ?_ I.funs
    exact Heap.get?_none_of_le (Nat.le_trans I.ok.bsz I.ok.above)
theorem Inv.stkSub (I:Inv X pins σ H s):∀ b∈frs X.stack,b∈X.env.locals :: X.fs:=fun b hb=>by
  rcases I.ok.stk with e | ⟨e,hf⟩
  · rw [e] at hb;exact List.mem_cons_of_mem _ hb
  · rw [e] at hb
    unfold frs at hb
    rw [List.filterMap_cons,hf] at hb
    exact hb
theorem Inv.stkFree (I:Inv X pins σ H s):∀ b∈frs X.stack,H b=none:=fun b hb=>by
  rcases List.mem_cons.mp (I.stkSub b hb) with e | hb
  · rw [e];exact I.free
  · obtain ⟨_,o,ho,_⟩:=I.ok.funs.mem hb
    exact I.base.free b o ho (I.ok.frf b hb) fun z=>I.ok.exfs b z hb
theorem Inv.step {g':Array GenState} {t':Nat} {d':Drawn} {ch:List Addr} (I:Inv X pins σ H s)
    (hch:∀ b∈ch,(b∈X.ex∨X.s₀.heap.objs.size≤b)∧b≠X.env.locals∧(∀ x c,X.env.cells.lookup x=some c→c≠b)∧∀ p∈X.pn++pins,p.1≠b)
    (keep:∀ b o,b≠X.env.locals→b ∉ X.fs→b ∉ ch→s.heap.get? b=some o→H b=none→h'.get? b=some o)
    (slot:∀ b o,b≠X.env.locals→b∈X.fs→b ∉ ch→s.heap.get? b=some o→H b=none→∃ sl,h'.get? b=some { o with slots:=sl }) (free:∀ b o,b ∉ ch→s.heap.get? b=some o→H b=none→H' b=none)
    (there:∀ b o,b ∉ ch→s.heap.get? b=some o→∃ o',h'.get? b=some o')
    (tups:∀ b xs,H b=some (.tup xs)→H' b=some (.tup xs)) (frzs:∀ b o u,H b=some (.frz o u)→H' b=some (.frz o u)) (tbls:∀ b ps,H b=some (.tbl ps)→∃ more,H' b=some (.tbl (ps++more)))
    (ns:∀ m,s.heap.Ns X.env.locals m→h'.Ns X.env.locals m) (hok:HOk X.prog X.w H' h') (hg:AllBare g') :
    Inv X pins σ H' { s with heap:=h',gens:=g',drawn:=d',toks:=t' }:=by
  have neL:∀ b o,X.s₀.heap.get? b=some o→b≠X.env.locals:=fun b o e=>Nat.ne_of_lt (Nat.lt_of_lt_of_le (Heap.lt_size e) I.ok.above)
  have neC:∀ b o,X.s₀.heap.get? b=some o→b ∉ X.ex→b ∉ ch:=fun b o e hx hb=>by
    rcases (hch b hb).1 with z | z
    · exact hx z
    · exact absurd (Nat.lt_of_lt_of_le (Heap.lt_size e) z) (Nat.lt_irrefl _)
  have cellK:∀ x c,X.env.cells.lookup x=some c→∀ v,s.heap.IsCell c v→h'.IsCell c v:=fun x c e v ⟨o,ho,hd⟩=>by
    have nch:c ∉ ch:=fun z=>(hch c z).2.2.1 x c e rfl
    by_cases hc:c∈X.fs
    · obtain ⟨sl,q⟩:=slot c o (I.cne x c e) hc nch ho (I.freeC x c e)
      exact ⟨_,q,hd⟩
    · exact ⟨o,keep c o (I.cne x c e) hc nch ho (I.freeC x c e),hd⟩
  refine ⟨I.ok,I.os,hg,⟨fun b o e n hb hx=>?_,fun b o e n hb hx=>?_,fun b o e n hx=>?_,fun b o e hx=>?_,fun b xs e=>tups b xs (I.base.tups b xs e),fun b o xs e=>frzs b o xs (I.base.frzs b o xs e),fun b ps e=>?_⟩,?_,fun x c e=>?_,?_,fun x c e=>?_,fun p hp=>?_,hok,I.len⟩
  · exact keep b o (neL b o e) hb (neC b o e hx) (I.base.keep b o e n hb hx) (I.base.free b o e n hx)
  · obtain ⟨sl,e1⟩:=I.base.slot b o e n hb hx
    obtain ⟨sl',e2⟩:=slot b _ (neL b o e) hb (neC b o e hx) e1 (I.base.free b o e n hx)
    exact ⟨sl',e2⟩
  · obtain ⟨o',e1⟩:=I.base.there b o e hx
    exact free b o' (neC b o e hx) e1 (I.base.free b o e n hx)
  · obtain ⟨o',e1⟩:=I.base.there b o e hx
    exact there b o' (neC b o e hx) e1
  · obtain ⟨m1,e1⟩:=I.base.tbls b ps e
    obtain ⟨m2,e2⟩:=tbls b _ e1
    exact ⟨m1++m2,by rw [e2,Array.append_assoc]⟩
  · obtain ⟨m,hn,hl⟩:=I.loc
    refine ⟨m,ns m hn,fun i x v e1 e2 e3=>?_⟩
    obtain ⟨u,r,l⟩:=hl i x v e1 e2 e3
    refine ⟨u,r,?_⟩
    rcases l with l | ⟨k,c,e,z⟩
    · exact .inl l
    · exact .inr ⟨k,c,e,cellK x c e _ z⟩
  · obtain ⟨v,z⟩:=I.cell x c e
    exact ⟨v,cellK x c e v z⟩
  · obtain ⟨m,⟨o,_,_,ho,_⟩,_⟩:=I.loc
    exact free _ o (fun z=>(hch _ z).2.1 rfl) ho I.free
  · obtain ⟨v,o,ho,hd⟩:=I.cell x c e
    exact free c o (fun z=>(hch c z).2.2.1 x c e rfl) ho (I.freeC x c e)
  · obtain ⟨e,n,ne,nf,d⟩:=I.pin p hp
    have nch:p.1 ∉ ch:=fun z=>(hch p.1 z).2.2.2 p hp rfl
    exact ⟨keep p.1 p.2 ne nf nch e n,free p.1 p.2 nch e n,ne,nf,d⟩
theorem Inv.un {t':Nat} (I:Inv X pins σ H s) (u:Un X.fs [] H H' s.heap h') (hok:HOk X.prog X.w H' h'):Inv X pins σ H' { s with heap:=h',toks:=t' }:=by
  obtain ⟨m,⟨o,es,ep,ho,r⟩,_⟩:=id I.loc
  obtain ⟨sl,hL⟩:=u.any ho I.free (by simp)
  exact I.step (g':=s.gens) (d':=s.drawn) (ch:=[]) (fun _ z=>nomatch z) (fun b o _ hb _ e n=>u.keep b o e n hb (by simp)) (fun b o _ hb _ e n=>u.slot b o e n hb (by simp)) (fun b o _ e n=>u.free b o e n (by simp)) (fun b o _ e=>u.there b o e (by simp)) u.tups u.frzs u.tbls (fun m' hm=>by
    obtain ⟨o',es',ep',ho',r'⟩:=hm
    rw [ho] at ho';cases ho'
    exact ⟨_,es',ep',hL,r'⟩) hok I.bare
theorem Inv.call {g':Array GenState} {t':Nat} {d':Drawn} {ch:List Addr} (I:Inv X pins σ H s) (u:Un (frs X.stack) ch H H' s.heap h') (hok:HOk X.prog X.w H' h') (hg:AllBare g')
    (hch:∀ b∈ch,(b∈X.ex∨X.s₀.heap.objs.size≤b)∧b≠X.env.locals∧(∀ x c,X.env.cells.lookup x=some c→c≠b)∧∀ p∈X.pn++pins,p.1≠b) :
    Inv X pins σ H' { s with heap:=h',gens:=g',drawn:=d',toks:=t' }:=by
  obtain ⟨m,⟨o,es,ep,ho,r⟩,_⟩:=id I.loc
  obtain ⟨sl,hL⟩:=u.any ho I.free fun z=>(hch _ z).2.1 rfl
  exact I.step (ch:=ch) hch (fun b o hL hb hc e n=>u.keep b o e n (fun z=>(List.mem_cons.mp (I.stkSub b z)).elim hL hb) hc) (fun b o _ _ hc e n=>u.any e n hc) (fun b o hc e n=>u.free b o e n hc) (fun b o hc e=>u.there b o e hc) u.tups u.frzs u.tbls (fun m' hm=>by
    obtain ⟨o',es',ep',ho',r'⟩:=hm
    rw [ho] at ho';cases ho'
    exact ⟨_,es',ep',hL,r'⟩) hok hg
theorem Inv.turned {t':Nat} {it:Addr} (I:Inv X pins σ H s) (k:∀ b o,b≠it→s.heap.get? b=some o→h'.get? b=some o) (hn:H it=none) (hL:it≠X.env.locals)
    (h1:it∈X.ex∨X.s₀.heap.objs.size≤it) (h2:∀ x c,X.env.cells.lookup x=some c→c≠it) (h3:∀ p∈X.pn++pins,p.1≠it):Inv X pins σ H { s with heap:=h',toks:=t' }:=by
  have nit:∀ b u,H b=some u→b≠it:=fun b u e z=>by rw [z,hn] at e;cases e
  refine I.step (g':=s.gens) (d':=s.drawn) (ch:=[it]) (fun b hb=>?_) (fun b o _ _ hc e _=>k b o (fun z=>hc (by simp [z])) e) (fun b o _ _ hc e _=>⟨o.slots,k b o (fun z=>hc (by simp [z])) e⟩) (fun _ _ _ _ n=>n)
    (fun b o hc e=>⟨o,k b o (fun z=>hc (by simp [z])) e⟩) (fun _ _ e=>e) (fun _ _ _ e=>e) (fun b ps e=>⟨#[],by rw [e];simp⟩) (fun m hm=>?_) (fun b u e=>?_) I.bare
  · have e:b=it:=by simpa using hb
    subst e
    exact ⟨h1,hL,h2,h3⟩
  · obtain ⟨o,es,ep,ho,r⟩:=hm
    exact ⟨o,es,ep,k _ o (Ne.symm hL) ho,r⟩
  · refine (I.hok b u e).stay (fun c v hc q=>k c v ?_ q) (fun _ q=>q) fun _ _ q=>q
    rcases hc with z | z
    · rw [z];exact nit b u e
    · exact nit c _ z
theorem Inv.tok (I:Inv X pins σ H s) (t:Nat):Inv X pins σ H { s with toks:=t }:=I.un (h':=s.heap) (t':=t) Un.refl I.hok
theorem Inv.kept {t':Nat} (I:Inv X pins σ H s) (k:∀ b u,s.heap.get? b=some u→h'.get? b=some u):Inv X pins σ H { s with heap:=h',toks:=t' }:=I.un (Un.kept k) (I.hok.kept k)
theorem Inv.laid {a:Addr} {o:HO} {t':Nat} (I:Inv X pins σ H s) (k:∀ b u,s.heap.get? b=some u→h'.get? b=some u) (hp:s.heap.objs.size≤a) (new:ObjOk X.prog X.w (upd H a o) h' a o) :
    Inv X pins σ (upd H a o) { s with heap:=h',toks:=t' }:=I.un (Un.laid k hp (I.hok.fresh hp)) (I.hok.laid k hp new)
theorem Inv.write {x e:Addr} {o:HO} {t':Nat} (I:Inv X pins σ H s) (mu:Mut (H x)) (he:e=x∨H e=some (.own x)) (k:∀ b u,b≠e→s.heap.get? b=some u→h'.get? b=some u) (heo:∃ u,h'.get? e=some u)
    (new:ObjOk X.prog X.w (upd H x o) h' x o):Inv X pins σ (upd H x o) { s with heap:=h',toks:=t' }:=I.un (Un.write mu he k heo) (I.hok.write mu he k heo new)
theorem Inv.pins_of {pins':List (Addr × Obj)} (I:Inv X pins σ H s) (h:∀ p∈pins',s.heap.get? p.1=some p.2∧H p.1=none∧p.1≠X.env.locals∧p.1 ∉ X.fs∧∀ v,p.2.data≠.cell v):Inv X pins' σ H s :=
  ⟨I.ok,I.os,I.bare,I.base,I.loc,I.cell,I.free,I.freeC,fun p hp=>(List.mem_append.mp hp).elim (fun z=>I.pin p (List.mem_append_left _ z)) (h p),I.hok,I.len⟩
theorem nodup_ix {N:List Str} (hN:N.Nodup) {i j:Nat} {x:Str} (a:N[i]? = some x) (b:N[j]? = some x):i=j:=by
  obtain ⟨h1,e1⟩:=List.getElem?_eq_some_iff.mp a
  obtain ⟨h2,e2⟩:=List.getElem?_eq_some_iff.mp b
  exact (List.getElem_inj hN).mp (e1.trans e2.symm)
theorem store_ok2 {M:Model} {A:Around} {E:Value→Shared→Prop} {i:Nat} {x:Str} {v:V} {u:Value} {Q:Unit→Shared→Prop} (I:Inv X pins σ H s) (hN:X.N.Nodup) (hi:X.N[i]? = some x) (hx:Loc X.env.scope x) (r:RelV v u)
    (h:∀ s',Inv X pins (σ.set i (some v)) H s'→(∃ a,Heap.SameBut a s.heap s'.heap∧(a=X.env.locals∨X.env.cells.lookup x=some a))→Q () s') (hf:X.fn x=true∨X.env.scope.names.lookup x=some .local:=by first | exact .inl rfl | exact .inr rfl | assumption):wpAny M A (storeName X.env x u) Q E s:=by
  obtain ⟨m,hn,hl⟩:=id I.loc
  have hcls:(X.env.scope.kind == .class || (X.env.scope.kind == .module && X.env.locals != X.env.globals))=false:=by rw [I.ok.kind];rfl
  have hiσ:i < σ.length:=by rw [I.len];exact (List.getElem?_eq_some_iff.mp hi).1
  have cne:=I.cne
  have tracked:∀ {a:Addr} {h':Heap},(∃ o,s.heap.get? a=some o∧H a=none)→Heap.SameBut a s.heap h'→HOk X.prog X.w H h':=fun {a h'} ha hs b ob e=>by
    obtain ⟨_,_,hfree⟩:=ha
    refine (I.hok b ob e).stay (fun c w' hc q=>(hs.2 c ?_).trans q) (fun _ q=>q) fun _ _ q=>q
    rintro rfl
    rcases hc with rfl | hc
    · rw [hfree] at e;cases e
    · rw [hfree] at hc;cases hc
  rcases hx with hk | hk
  · refine wpAny_storeName_local hk hn (fun h' hn' hs=>?_) hcls
    obtain ⟨oL,_,_,hoL,_⟩:=id hn
    refine h _ ⟨I.ok,I.os,I.bare,⟨fun b o e n hb hx=>?_,fun b o e n hb hx=>?_,I.base.free,fun b o e hx=>?_,I.base.tups,I.base.frzs,I.base.tbls⟩,⟨_,hn',fun j y v' e1 e2 e3=>?_⟩,fun y c e=>?_,I.free,I.freeC,fun p hp=>?_,tracked ⟨oL,hoL,I.free⟩ hs,by simpa using I.len⟩ ⟨_,hs,.inl rfl⟩
    · exact (hs.2 b (Nat.ne_of_lt (Nat.lt_of_lt_of_le (Heap.lt_size e) I.ok.above))).trans (I.base.keep b o e n hb hx)
    · obtain ⟨sl,e1⟩:=I.base.slot b o e n hb hx
      exact ⟨sl,(hs.2 b (Nat.ne_of_lt (Nat.lt_of_lt_of_le (Heap.lt_size e) I.ok.above))).trans e1⟩
    · obtain ⟨o',e1⟩:=I.base.there b o e hx
      exact ⟨o',(hs.2 b (Nat.ne_of_lt (Nat.lt_of_lt_of_le (Heap.lt_size e) I.ok.above))).trans e1⟩
    · by_cases hj:j=i
      · subst hj
        rw [hi] at e1;cases e1
        rw [List.getElem?_set_self hiσ] at e2
        cases e2
        exact ⟨u,r,.inl ⟨hk,by simp⟩⟩
      · rw [List.getElem?_set_ne (Ne.symm hj)] at e2
        obtain ⟨u',r',q⟩:=hl j y v' e1 e2 e3
        refine ⟨u',r',?_⟩
        rcases q with ⟨k,e⟩ | ⟨k,c,e,z⟩
        · refine .inl ⟨k,?_⟩
          have:y≠x:=fun e=>hj (nodup_ix hN e1 (e ▸ hi))
          simp [this,e]
        · exact .inr ⟨k,c,e,z.sameBut hs (cne y c e)⟩
    · obtain ⟨w',z⟩:=I.cell y c e
      exact ⟨w',z.sameBut hs (cne y c e)⟩
    · obtain ⟨e,n,ne,nf,d⟩:=I.pin p hp
      exact ⟨(hs.2 p.1 ne).trans e,n,ne,nf,d⟩
  · have hfn:X.fn x=true:=by
      rcases hf with z | z
      · exact z
      · rw [z] at hk;cases hk
    obtain ⟨c,hc⟩:=I.ok.has x (.inl hk)
    obtain ⟨w',z⟩:=I.cell x c hc
    refine wpAny_storeName_cell I.ok.kind hk hc z (fun h' hc' hs=>?_)
    obtain ⟨oc,hoc,hocd⟩:=id z
    refine h { s with heap:=h' } ⟨I.ok,I.os,I.bare,⟨fun b o e n hb hx=>?_,fun b o e n hb hx=>?_,I.base.free,fun b o e hx=>?_,I.base.tups,I.base.frzs,I.base.tbls⟩,⟨m,hn.sameBut hs (Ne.symm (cne x c hc)),fun j y v' e1 e2 e3=>?_⟩,fun y c' e=>?_,I.free,I.freeC,fun p hp=>?_,tracked ⟨oc,hoc,I.freeC x c hc⟩ hs,by simpa using I.len⟩ ⟨c,hs,.inr hc⟩
    · exact (hs.2 b (Nat.ne_of_lt (Nat.lt_of_lt_of_le (Heap.lt_size e) (I.ok.cab x c hfn hc)))).trans (I.base.keep b o e n hb hx)
    · obtain ⟨sl,e1⟩:=I.base.slot b o e n hb hx
      exact ⟨sl,(hs.2 b (Nat.ne_of_lt (Nat.lt_of_lt_of_le (Heap.lt_size e) (I.ok.cab x c hfn hc)))).trans e1⟩
    · obtain ⟨o',e1⟩:=I.base.there b o e hx
      exact ⟨o',(hs.2 b (Nat.ne_of_lt (Nat.lt_of_lt_of_le (Heap.lt_size e) (I.ok.cab x c hfn hc)))).trans e1⟩
    · by_cases hj:j=i
      · subst hj
        rw [hi] at e1;cases e1
        rw [List.getElem?_set_self hiσ] at e2
        cases e2
        exact ⟨u,r,.inr ⟨.inl hk,c,hc,hc'⟩⟩
      · rw [List.getElem?_set_ne (Ne.symm hj)] at e2
        obtain ⟨u',r',q⟩:=hl j y v' e1 e2 e3
        refine ⟨u',r',?_⟩
        rcases q with q | ⟨k,c',e,z'⟩
        · exact .inl q
        · refine .inr ⟨k,c',e,z'.sameBut hs ?_⟩
          rintro rfl
          exact hj (nodup_ix hN e1 (I.ok.inj _ _ _ e hc ▸ hi))
    · by_cases hcc:c'=c
      · subst hcc;exact ⟨_,hc'⟩
      · obtain ⟨w2,z2⟩:=I.cell y c' e
        exact ⟨w2,z2.sameBut hs hcc⟩
    · obtain ⟨e,n,ne,nf,d⟩:=I.pin p hp
      refine ⟨(hs.2 p.1 ?_).trans e,n,ne,nf,d⟩
      intro q
      rw [q,hoc] at e
      have q':oc=p.2:=Option.some.inj e
      exact d w' (by rw [← q'];exact hocd)
theorem store_ok {M:Model} {A:Around} {E:Value→Shared→Prop} {i:Nat} {x:Str} {v:V} {u:Value} {Q:Unit→Shared→Prop} (I:Inv X pins σ H s) (hN:X.N.Nodup) (hi:X.N[i]? = some x) (hx:Loc X.env.scope x) (r:RelV v u)
    (h:∀ s',Inv X pins (σ.set i (some v)) H s'→Q () s') (hf:X.fn x=true∨X.env.scope.names.lookup x=some .local:=by first | exact .inl rfl | exact .inr rfl | assumption):wpAny M A (storeName X.env x u) Q E s :=
  store_ok2 I hN hi hx r (fun s' I' _=>h s' I') hf
theorem Inv.call' {s':Shared} {ch:List Addr} (I:Inv X pins σ H s) (ho:s'.os=s.os) (u:Un (frs X.stack) ch H H' s.heap s'.heap) (hok:HOk X.prog X.w H' s'.heap) (hg:AllBare s'.gens)
    (hch:∀ b∈ch,(b∈X.ex∨X.s₀.heap.objs.size≤b)∧b≠X.env.locals∧(∀ x c,X.env.cells.lookup x=some c→c≠b)∧∀ p∈X.pn++pins,p.1≠b):Inv X pins σ H' s':=by
  obtain ⟨h',g',d',t',o'⟩:=s'
  have e:o'=s.os:=ho
  subst e
  exact I.call (g':=g') (t':=t') (d':=d') u hok hg hch
end
abbrev XK:=Value→Option Addr→Hp→Prop
abbrev St:=List (Option V)
abbrev VK:=V→Hp→Prop
abbrev TE:=St→Hp→VK→Prop
abbrev TT:=St→Hp→(Bool→Hp→Prop)→Prop
abbrev TA:=St→Hp→(List V→Hp→Prop)→Prop
structure Ends where
  nx:St→Hp→Prop
  rt:VK
  bk:St→Hp→Prop:=fun _ _=>False
  ct:St→Hp→Prop:=fun _ _=>False
abbrev TS:=Ends→St→Hp→Prop
def EP (X:Cx) (pins:List (Addr × Obj)) (σ:St) (Q:VK) (u:Value) (s':Shared):Prop:=∃ v H',Inv X pins σ H' s'∧RelV v u∧Q v H'
def TP (X:Cx) (pins:List (Addr × Obj)) (σ:St) (Q:Bool→Hp→Prop) (b:Bool) (s':Shared):Prop:=∃ H',Inv X pins σ H' s'∧Q b H'
def AP (X:Cx) (pins:List (Addr × Obj)) (σ:St) (Q:List V→Hp→Prop) (us:List Value) (s':Shared):Prop:=∃ vs H',Inv X pins σ H' s'∧Vals vs us∧Q vs H'
def SP (X:Cx) (pins:List (Addr × Obj)) (D:Ends) (f:Flow) (s':Shared):Prop :=
  match f with
  | .next=>∃ σ' H',Inv X pins σ' H' s'∧D.nx σ' H'
  | .brk=>∃ σ' H',Inv X pins σ' H' s'∧D.bk σ' H'
  | .cont=>∃ σ' H',Inv X pins σ' H' s'∧D.ct σ' H'
  | .ret u=>∃ v σ' H',Inv X pins σ' H' s'∧RelV v u∧D.rt v H'
def PE (X:Cx) (e:Expr) (t:TE):Prop :=
  ∀ (pins:List (Addr × Obj)) (s:Shared) (σ:St) (H:Hp) (Q:VK),Inv X pins σ H s→t σ H Q→wpAny (model X.prog X.w) X.A (eval e X.env) (EP X pins σ Q) X.xe s
def PT (X:Cx) (e:Expr) (t:TT):Prop :=
  ∀ (pins:List (Addr × Obj)) (s:Shared) (σ:St) (H:Hp) (Q:Bool→Hp→Prop),Inv X pins σ H s→t σ H Q→wpAny (model X.prog X.w) X.A (isTrue e X.env (eval e X.env)) (TP X pins σ Q) X.xe s
def PW (X:Cx) (e:Expr) (t:TT):Prop :=
  ∀ (whole:Sem Value) (pins:List (Addr × Obj)) (s:Shared) (σ:St) (H:Hp) (Q:Bool→Hp→Prop),Inv X pins σ H s→t σ H Q→wpAny (model X.prog X.w) X.A (isTrue e X.env whole) (TP X pins σ Q) X.xe s
theorem PW.pt {X:Cx} {e:Expr} {t:TT} (h:PW X e t):PT X e t:=h _
def PA (X:Cx) (es:List Expr) (t:TA):Prop :=
  ∀ (pos:Pos) (pins:List (Addr × Obj)) (s:Shared) (σ:St) (H:Hp) (Q:List V→Hp→Prop),Inv X pins σ H s→t σ H Q→wpAny (model X.prog X.w) X.A (spliced (backTo pos (starEach es X.env))) (AP X pins σ Q) X.xe s
def PS (X:Cx) (st:Stmt) (t:TS):Prop :=
  ∀ (pins:List (Addr × Obj)) (s:Shared) (σ:St) (H:Hp) (D:Ends),Inv X pins σ H s→t D σ H→wpAny (model X.prog X.w) X.A (exec st X.env) (SP X pins D) X.xe s
def PSs (X:Cx) (st:List Stmt) (t:TS):Prop :=
  ∀ (pins:List (Addr × Obj)) (s:Shared) (σ:St) (H:Hp) (D:Ends),Inv X pins σ H s→t D σ H→wpAny (model X.prog X.w) X.A (execs st X.env) (SP X pins D) X.xe s
theorem thn {α:Type} {t:Sem α} {Q Q':α→Shared→Prop} {M:Model} {A:Around} {E:Value→Shared→Prop} {s:Shared} (h:wpAny M A t Q E s) (hQ:∀ a s,Q a s→Q' a s):wpAny M A t Q' E s:=wpAny_mono h hQ fun _ _ x=>x
end L2
namespace L2
open PySem PySem.Spec PyProof.Rows
section
variable {X:Cx}
def tVar (i:Nat):TE:=fun σ H Q=>∃ v,σ[i]? = some (some v)∧Q v H
def tC (v:V):TE:=fun _ H Q=>Q v H
theorem pe_var {i:Nat} {x:Str} {pos:Pos} (hN:X.N[i]? = some x) (hv:Vis X.env.scope x) (hd:(x == ("__debug__" : Str))=false:=by decide) (hcd:(x == ("__classdict__" : Str))=false:=by decide):PE X (.Name x pos) (tVar i):=by
  intro pins s σ H Q I h
  obtain ⟨v,e,h⟩:=h
  obtain ⟨m,hn,hl⟩:=I.loc
  obtain ⟨u,r,l⟩:=hl i x v hN e hv
  have fin:EP X pins σ Q u s:=⟨v,H,I,r,h⟩
  rcases l with ⟨hk,hm⟩ | ⟨hk,c,hc,hcell⟩
  · exact wpAny_Name (wpAny_loadName_local I.ok.kind hk hn hm fin) hd
  · rcases hk with hk | hk
    · exact wpAny_Name (wpAny_loadName_cell I.ok.kind hk hc hcell fin) hd
    · exact wpAny_Name (wpAny_loadName_free I.ok.kind hk hc hcell fin hcd) hd
theorem pe_int {i j pos}:PE X (.Constant (.int i) j pos) (tC (.int i)):=fun _ _ _ H _ I h=>wpAny_Constant_int ⟨.int i,H,I.tok _,⟨_,rfl⟩,h⟩
theorem pe_bl {b j pos}:PE X (.Constant (.bool b) j pos) (tC (.bl b)):=fun _ _ _ H _ I h=>Constant_bool ⟨.bl b,H,I,rfl,h⟩
theorem pe_non {j pos}:PE X (.Constant .none j pos) (tC .non):=fun _ _ _ H _ I h=>Constant_none ⟨.non,H,I,rfl,h⟩
theorem pe_str {x j pos}:PE X (.Constant (.str x) j pos) (tC (.str x)):=fun _ _ _ H _ I h=>Calls.Constant_str ⟨.str x,H,I.tok _,⟨_,rfl⟩,h⟩
def Gl (X:Cx) (x:Str):Prop:=X.env.kindOf x=some .globalImplicit
theorem ld_glob {E:Value→Shared→Prop} {pins:List (Addr × Obj)} {s:Shared} {σ:St} {H:Hp} {x:Str} {u:Value} {pos:Pos} {Q:Value→Shared→Prop} (I:Inv X pins σ H s) (hg:Gl X x) (hm:X.mg x=some u) (h:Q u s)
    (hd:(x == ("__debug__" : Str))=false:=by decide):wpAny (model X.prog X.w) X.A (eval (.Name x pos) X.env) Q E s :=
  Calls.Name_function_global I.ok.kind hg (Calls.loadGlobal_global (by rw [I.ok.glob];exact I.mod.glob.keeps I.bk) hm h) hd
theorem ld_blt {E:Value→Shared→Prop} {pins:List (Addr × Obj)} {s:Shared} {σ:St} {H:Hp} {x:Str} {u:Value} {pos:Pos} {Q:Value→Shared→Prop} (I:Inv X pins σ H s) (hg:Gl X x) (hm:X.mg x=none) (hv:bootBuiltins x=some u) (h:Q u s)
    (hn:x≠"__name__":=by decide) (hd:(x == ("__debug__" : Str))=false:=by decide):wpAny (model X.prog X.w) X.A (eval (.Name x pos) X.env) Q E s:=by
  obtain ⟨mb,h1,h2⟩:=I.mod.blt
  exact Calls.Name_function_global I.ok.kind hg (Calls.loadGlobal_builtin (by rw [I.ok.glob];exact I.mod.glob.keeps I.bk) hm (by rw [I.ok.blt];exact h1.keeps I.bk) ((h2 x hn).trans hv) h) hd
theorem pe_glob {x:Str} {v:V} {u:Value} {pos:Pos} (hg:Gl X x) (hm:X.mg x=some u) (r:RelV v u) (hd:(x == ("__debug__" : Str))=false:=by decide):PE X (.Name x pos) (tC v) :=
  fun _ _ _ H _ I h=>ld_glob I hg hm ⟨v,H,I,r,h⟩ hd
theorem pe_bltn {x:Str} {v:V} {u:Value} {pos:Pos} (hg:Gl X x) (hm:X.mg x=none) (hv:bootBuiltins x=some u) (r:RelV v u) (hn:x≠"__name__":=by decide) (hd:(x == ("__debug__" : Str))=false:=by decide):PE X (.Name x pos) (tC v) :=
  fun _ _ _ H _ I h=>ld_blt I hg hm hv ⟨v,H,I,r,h⟩ hn hd
variable {a b:Expr} {ta tb:TE} {pos:Pos}
def tB (t:TE):TT:=fun σ H Q=>t σ H fun x H1=>∃ c,x=.bl c∧Q c H1
theorem pt_val {e:Expr} {t:TE} (h:PE X e t) (he:∀ whole,isTrue e X.env whole=(do let v ← whole;standAt e.pos;holding [v] (truthy v)):=by intro _;rfl):PT X e (tB t):=by
  intro pins s σ H Q I hw
  refine isTrue_plain (thn (h pins s σ H _ I hw) fun v s1 ⟨x,H1,I1,r1,q1⟩=>?_) (he _)
  obtain ⟨d,rfl,q⟩:=q1
  cases r1
  exact wpAny_truthy_bool ⟨H1,I1,q⟩
variable {tA tB':TT} {rest:List Expr}
def tAnd (t u:TT):TT:=fun σ H Q=>t σ H fun c H1=>if c=true then u σ H1 Q else Q false H1
def tOr (t u:TT):TT:=fun σ H Q=>t σ H fun c H1=>if c=true then Q true H1 else u σ H1 Q
def tNot (t:TT):TT:=fun σ H Q=>t σ H fun c H1=>Q (!c) H1
theorem pw_and1 (ha:PT X a tA):PW X (.BoolOp .And [a] pos) tA:=by
  intro wh pins s σ H Q I h
  refine isTrue_and (thn (ha pins s σ H Q I h) fun c s1 e=>?_)
  cases c with
  | true=>exact isTrue_and_nil e
  | false=>exact e
theorem pw_or1 (ha:PT X a tA):PW X (.BoolOp .Or [a] pos) tA:=by
  intro wh pins s σ H Q I h
  refine isTrue_or (thn (ha pins s σ H Q I h) fun c s1 e=>?_)
  cases c with
  | false=>exact isTrue_or_nil e
  | true=>exact e
theorem pw_and (ha:PT X a tA) (hb:PW X (.BoolOp .And (b :: rest) pos) tB'):PW X (.BoolOp .And (a :: b :: rest) pos) (tAnd tA tB'):=by
  intro wh pins s σ H Q I h
  refine isTrue_and (thn (ha pins s σ H _ I h) fun c s1 ⟨H1,I1,q1⟩=>?_)
  cases c with
  | true=>exact hb wh pins s1 σ H1 Q I1 q1
  | false=>exact ⟨H1,I1,q1⟩
theorem pw_or (ha:PT X a tA) (hb:PW X (.BoolOp .Or (b :: rest) pos) tB'):PW X (.BoolOp .Or (a :: b :: rest) pos) (tOr tA tB'):=by
  intro wh pins s σ H Q I h
  refine isTrue_or (thn (ha pins s σ H _ I h) fun c s1 ⟨H1,I1,q1⟩=>?_)
  cases c with
  | true=>exact ⟨H1,I1,q1⟩
  | false=>exact hb wh pins s1 σ H1 Q I1 q1
theorem pt_not (ha:PT X a tA):PT X (.UnaryOp .Not a pos) (tNot tA):=by
  intro pins s σ H Q I h
  exact isTrue_not (ha pins s σ H (fun c H1=>Q (!c) H1) I h)
def tAndV (ta tb:TE):TE:=fun σ H Q=>ta σ H fun x H1=>∃ c,x=.bl c∧if c=true then tb σ H1 Q else Q (.bl false) H1
def tNotV (ta:TE):TE:=fun σ H Q=>ta σ H fun x H1=>∃ c,x=.bl c∧Q (.bl (!c)) H1
theorem pe_one {op} {t:TE} (h:PE X a t):PE X (.BoolOp op [a] pos) t:=fun pins s σ H Q I hw=>BoolOp_one (h pins s σ H Q I hw)
theorem pe_and (ha:PE X a ta) (hb:PE X (.BoolOp .And (b :: rest) pos) tb):PE X (.BoolOp .And (a :: b :: rest) pos) (tAndV ta tb):=by
  intro pins s σ H Q I h
  refine BoolOp_and (thn (ha pins s σ H _ I h) fun v s1 ⟨x,H1,I1,r1,q1⟩=>?_)
  obtain ⟨c,rfl,q1⟩:=q1
  cases r1
  refine wpAny_truthy_bool ?_
  cases c with
  | true=>exact hb pins s1 σ H1 Q I1 q1
  | false=>exact ⟨.bl false,H1,I1,rfl,q1⟩
theorem pe_not (ha:PE X a ta):PE X (.UnaryOp .Not a pos) (tNotV ta):=by
  intro pins s σ H Q I h
  refine UnaryOp_ (thn (ha pins s σ H _ I h) fun v s1 ⟨x,H1,I1,r1,q1⟩=>?_)
  obtain ⟨c,rfl,q1⟩:=q1
  cases r1
  exact not_of (wpAny_truthy_bool ⟨.bl (!c),H1,I1,rfl,q1⟩)
end
end L2
namespace L2
open PySem PySem.Spec PyProof.Rows
def SqL (K:PySem.W.Frag) (H:Hp) (a:Addr) (xs:List V):Prop :=
  Rd H a (.lst xs) ∨
    ∃ (o:Obj) (its:Array Value) (n:Nat),K.lookup a=some o∧o.cls=.type "list"∧o.dict=none∧o.data=.seq its n∧its.size≤sizeLine∧Vals xs its.toList
def SqT (K:PySem.W.Frag) (H:Hp) (a:Addr) (xs:List V):Prop :=
  Rd H a (.tup xs) ∨
    ∃ (o:Obj) (its:Array Value) (n:Nat),K.lookup a=some o∧o.cls=.type "tuple"∧o.data=.seq its n∧its.size≤sizeLine∧Vals xs its.toList
def absV:Value→Option V
  | .none=>some .non
  | .bool b=>some (.bl b)
  | .int i _=>some (.int i)
  | .str x _=>some (.str x)
  | .bytes b _=>some (.byt b)
  | .float b _=>some (.flt b)
  | .ref a=>some (.ref a)
  | .type n=>some (.ty n)
  | _=>none
theorem RelV.abs {x:V} {u:Value} (r:RelV x u):absV u=some x:=by
  cases x with
  | non=>cases r;rfl
  | bl _=>cases r;rfl
  | int _=>obtain ⟨t,rfl⟩:=r;rfl
  | str _=>obtain ⟨t,rfl⟩:=r;rfl
  | byt _=>obtain ⟨t,rfl⟩:=r;rfl
  | flt _=>obtain ⟨t,rfl⟩:=r;rfl
  | ref _=>cases r;rfl
  | ty _=>cases r;rfl
theorem RelV.inj {x y:V} {u:Value} (r:RelV x u) (q:RelV y u):x=y:=Option.some.inj (r.abs.symm.trans q.abs)
theorem Vals.inj:∀ {xs ys:List V} {us:List Value},Vals xs us→Vals ys us→xs=ys
  | _,_,_,.nil,.nil=>rfl
  | _,_,_,.cons r t,.cons r' t'=>by rw [r.inj r',Vals.inj t t']
section
variable {X:Cx} {pins:List (Addr × Obj)} {σ:St} {H:Hp} {s:Shared} {a:Addr} {xs ys:List V}
theorem SqL.of {K:PySem.W.Frag} (h:H a=some (.lst xs)):SqL K H a xs:=.inl (.inl h)
theorem SqT.of {K:PySem.W.Frag} (h:H a=some (.tup xs)):SqT K H a xs:=.inl (.inl h)
theorem Inv.list (I:Inv X pins σ H s) (h:SqL X.K H a xs):∃ its:List Value,Vals xs its∧PlainL s.heap a its.toArray∧xs.length≤sizeLine:=by
  rcases h with h | ⟨o,its,n,hk,hc,hd,hs,hz,r⟩
  · obtain ⟨z,its,n,r,e⟩:=h.ok I.hok
    exact ⟨its,r,⟨_,n,e,rfl,rfl,rfl⟩,z⟩
  · refine ⟨its.toList,r,⟨o,n,I.kIn a o hk,hc,hd,by simpa using hs⟩,?_⟩
    have e:=r.length
    simp only [Array.length_toList] at e
    omega
theorem Inv.tuple (I:Inv X pins σ H s) (h:SqT X.K H a xs):∃ its:List Value,Vals xs its∧IsTup s.heap a its.toArray∧xs.length≤sizeLine:=by
  rcases h with h | ⟨o,its,n,hk,hc,hs,hz,r⟩
  · obtain ⟨z,its,r,p,_⟩:=h.ok I.hok
    exact ⟨its,r,p,z⟩
  · refine ⟨its.toList,r,⟨o,I.kIn a o hk,hc,n,by simpa using hs⟩,?_⟩
    have e:=r.length
    simp only [Array.length_toList] at e
    omega
theorem Inv.list_inj (I:Inv X pins σ H s) (h:SqL X.K H a xs) (h':SqL X.K H a ys):xs=ys:=by
  obtain ⟨its,r,⟨o,n,e,_,_,d⟩,_⟩:=I.list h
  obtain ⟨its',r',⟨o',n',e',_,_,d'⟩,_⟩:=I.list h'
  rw [e] at e';cases e'
  rw [d] at d'
  injection d' with d1 _
  have:its=its':=by simpa using congrArg Array.toList d1
  subst this
  exact r.inj r'
end
abbrev Cx.wish (X:Cx) (E:Value→Shared→Prop):Cx:={ X with xe:=E }
abbrev Cx.nox (X:Cx):Cx:=X.wish fun _ _=>False
theorem Cx.Ok.wish {X:Cx} (ok:X.Ok) (E:Value→Shared→Prop):(X.wish E).Ok :=
  ⟨ok.mod,ok.kind,ok.glob,ok.blt,ok.above,ok.inj,ok.has,ok.cab,ok.hd,ok.frames,ok.stk,ok.exf,ok.bs,ok.bsz,ok.noex,ok.exfs,ok.funs,ok.frf⟩
theorem Cx.Ok.unwish {X:Cx} {E:Value→Shared→Prop} (ok:(X.wish E).Ok):X.Ok :=
  ⟨ok.mod,ok.kind,ok.glob,ok.blt,ok.above,ok.inj,ok.has,ok.cab,ok.hd,ok.frames,ok.stk,ok.exf,ok.bs,ok.bsz,ok.noex,ok.exfs,ok.funs,ok.frf⟩
section
variable {X:Cx} {pins:List (Addr × Obj)} {σ:St} {H:Hp} {s:Shared} {E:Value→Shared→Prop}
theorem Inv.wish (I:Inv X pins σ H s) (E:Value→Shared→Prop):Inv (X.wish E) pins σ H s:=⟨I.ok.wish E,I.os,I.bare,I.base,I.loc,I.cell,I.free,I.freeC,I.pin,I.hok,I.len⟩
theorem Inv.unwish (I:Inv (X.wish E) pins σ H s):Inv X pins σ H s:=⟨I.ok.unwish,I.os,I.bare,I.base,I.loc,I.cell,I.free,I.freeC,I.pin,I.hok,I.len⟩
theorem SP.unwish {D:Ends} {f:Flow} {s':Shared} (h:SP (X.wish E) pins D f s'):SP X pins D f s':=by
  cases f with
  | next=>obtain ⟨σ',H',I,q⟩:=h;exact ⟨σ',H',I.unwish,q⟩
  | brk=>obtain ⟨σ',H',I,q⟩:=h;exact ⟨σ',H',I.unwish,q⟩
  | cont=>obtain ⟨σ',H',I,q⟩:=h;exact ⟨σ',H',I.unwish,q⟩
  | ret u=>obtain ⟨v,σ',H',I,r,q⟩:=h;exact ⟨v,σ',H',I.unwish,r,q⟩
theorem PE.nox {e:Expr} {t:TE} (h:PE X.nox e t):PE X e t:=fun pins s σ H Q I hw =>
  wpAny_mono (h pins s σ H Q (I.wish _) hw) (fun _ _ ⟨v,H',I',r,q⟩=>⟨v,H',I'.unwish,r,q⟩) fun _ _ z=>False.elim z
theorem PT.nox {e:Expr} {t:TT} (h:PT X.nox e t):PT X e t:=fun pins s σ H Q I hw =>
  wpAny_mono (h pins s σ H Q (I.wish _) hw) (fun _ _ ⟨H',I',q⟩=>⟨H',I'.unwish,q⟩) fun _ _ z=>False.elim z
theorem PSs.nox {st:List Stmt} {t:TS} (h:PSs X.nox st t):PSs X st t:=fun pins s σ H D I hw =>
  wpAny_mono (h pins s σ H D (I.wish _) hw) (fun _ _ q=>q.unwish) fun _ _ z=>False.elim z
end
section
variable {X:Cx} {st:Stmt} {rest:List Stmt} {t u:TS} {e:Expr} {te:TE} {pos:Pos}
def tNext:TS:=fun D σ H=>D.nx σ H
def tSeq (t u:TS):TS:=fun D σ H=>t { D with nx:=u D } σ H
theorem pss_nil:PSs X [] tNext:=fun _ _ σ H _ I h=>wpAny_execs_nil ⟨σ,H,I,h⟩
theorem pss_cons (h1:PS X st t) (h2:PSs X rest u):PSs X (st :: rest) (tSeq t u):=by
  intro pins s σ H D I h
  refine wpAny_execs_cons (thn (h1 pins s σ H { D with nx:=u D } I h) fun f s1 q=>?_)
  cases f with
  | next =>
    obtain ⟨σ',H',I',q⟩:=q
    exact h2 pins s1 σ' H' D I' q
  | ret v=>exact q
  | brk=>exact q
  | cont=>exact q
theorem pss_one (h1:PS X st t):PSs X [st] t:=by
  intro pins s σ H D I h
  refine wpAny_execs_cons (thn (h1 pins s σ H D I h) fun f s1 q=>?_)
  cases f with
  | next=>exact wpAny_execs_nil q
  | ret v=>exact q
  | brk=>exact q
  | cont=>exact q
theorem Inv.quiet {pins:List (Addr × Obj)} {σ:St} {H:Hp} {s:Shared} (I:Inv X pins σ H s):interactive X.env=false:=by simp [interactive,I.ok.kind]
def tDrop (te:TE):TS:=fun D σ H=>te σ H fun _ H1=>D.nx σ H1
theorem ps_expr (he:PE X e te) (hs:swapsWith e none pos.line X.env=pure false:=by rfl):PS X (.Expr e pos) (tDrop te):=by
  intro pins s σ H D I h
  exact wpAny_Expr_any (thn (he pins s σ H _ I h) fun v s1 ⟨x,H1,I1,r1,q1⟩=>⟨σ,H1,I1,q1⟩) I.quiet hs
def tRet (te:TE):TS:=fun D σ H=>te σ H D.rt
theorem ps_ret (he:PE X e te):PS X (.Return (some e) pos) (tRet te):=by
  intro pins s σ H D I h
  exact wpAny_Return_some (thn (he pins s σ H _ I h) fun v s1 ⟨x,H1,I1,r1,q1⟩=>⟨x,σ,H1,I1,r1,q1⟩)
def tIfS (c:TT) (t u:TS):TS:=fun D σ H=>c σ H fun b H1=>if b=true then t D σ H1 else u D σ H1
theorem ps_if {c:Expr} {a b:List Stmt} {tc:TT} (hc:PT X c tc) (ha:PSs X a t) (hb:PSs X b u):PS X (.If c a b pos) (tIfS tc t u):=by
  intro pins s σ H D I h
  refine wpAny_If (thn (hc pins s σ H _ I h) fun d s1 ⟨H1,I1,q1⟩=>?_)
  cases d with
  | true=>exact ha pins s1 σ H1 D I1 q1
  | false=>exact hb pins s1 σ H1 D I1 q1
end
abbrev TG:=V→St→Hp→(St→Hp→Prop)→Prop
abbrev TGs:=List V→St→Hp→(St→Hp→Prop)→Prop
def PG (X:Cx) (target:Expr) (t:TG):Prop :=
  ∀ (pins:List (Addr × Obj)) (s:Shared) (σ:St) (H:Hp) (v:V) (u:Value) (Q:St→Hp→Prop),Inv X pins σ H s→RelV v u→t v σ H Q →
    wpAny (model X.prog X.w) X.A (assign target X.env u) (fun _ s'=>∃ σ' H',Inv X pins σ' H' s'∧Q σ' H') X.xe s
def PGs (X:Cx) (ts:List Expr) (t:TGs):Prop :=
  ∀ (pins:List (Addr × Obj)) (s:Shared) (σ:St) (H:Hp) (vs:List V) (us:List Value) (Q:St→Hp→Prop),Inv X pins σ H s→Vals vs us→t vs σ H Q →
    wpAny (model X.prog X.w) X.A (assignInOrder ((assignEach ts X.env).map (·.2)) us) (fun _ s'=>∃ σ' H',Inv X pins σ' H' s'∧Q σ' H') X.xe s
abbrev TSet:=V→V→V→Hp→(Hp→Prop)→Prop
def PSet (X:Cx) (t:TSet):Prop :=
  ∀ (pins:List (Addr × Obj)) (s:Shared) (σ:St) (H:Hp) (o i v:V) (ov iv u:Value) (Q:Hp→Prop),Inv X pins σ H s→RelV o ov→RelV i iv→RelV v u→t o i v H Q →
    wpAny (model X.prog X.w) X.A (setItem ov iv u) (fun _ s'=>∃ H',Inv X pins σ H' s'∧Q H') X.xe s
section
variable {X:Cx} {pos:Pos}
def gName (i:Nat):TG:=fun v σ H Q=>Q (σ.set i (some v)) H
theorem pg_name {i:Nat} {x:Str} (hN:X.N.Nodup) (hi:X.N[i]? = some x) (hx:Loc X.env.scope x) (hf:X.fn x=true∨X.env.scope.names.lookup x=some .local:=by first | exact .inl rfl | exact .inr rfl | assumption):PG X (.Name x pos) (gName i):=by
  intro pins s σ H v u Q I r h
  exact wpAny_assign_Name (store_ok I hN hi hx r (fun s' I'=>⟨_,H,I',h⟩) hf)
def gNil:TGs:=fun vs σ H Q=>vs=[]∧Q σ H
def gCons (t:TG) (u:TGs):TGs:=fun vs σ H Q=>∃ v r,vs=v :: r∧t v σ H fun σ' H'=>u r σ' H' Q
theorem pgs_nil:PGs X [] gNil:=by
  intro pins s σ H vs us Q I r h
  obtain ⟨e,h⟩:=h
  subst e
  cases r
  exact assignInOrder_nil ⟨σ,H,I,h⟩
theorem pgs_cons {e:Expr} {es:List Expr} {t:TG} {u:TGs} (h1:PG X e t) (h2:PGs X es u)
    (hs:(assignEach (e :: es) X.env).map (·.2)=assign e X.env :: (assignEach es X.env).map (·.2):=by rfl):PGs X (e :: es) (gCons t u):=by
  intro pins s σ H vs us Q I r h
  obtain ⟨v,vr,e1,h⟩:=h
  subst e1
  cases r with
  | cons r rr =>
    rw [hs]
    refine assignInOrder_cons (thn (h1 pins s σ H _ _ _ I r h) fun _ s1 ⟨σ1,H1,I1,q1⟩=>?_)
    exact h2 pins s1 σ1 H1 _ _ Q I1 rr q1
def gTup (K:PySem.W.Frag) (n:Nat) (t:TGs):TG:=fun v σ H Q=>∃ a xs,v=.ref a∧SqT K H a xs∧xs.length=n∧t xs σ H Q
theorem pg_tup {es:List Expr} {k:Nat} {t:TGs} {n:Nat} (hc:X.calm=true) (h:PGs X es t)
    (hn:(assignEach es X.env).length=n:=by rfl) (hst:(assignEach es X.env).findIdx? (·.1)=none:=by rfl):PG X (.Tuple es k pos) (gTup X.K n t):=by
  intro pins s σ H v u Q I r hw
  obtain ⟨a,xs,e1,hq,hl,hw⟩:=hw
  subst e1
  cases r
  obtain ⟨its,rv,ht,hz⟩:=I.tuple hq
  refine assign_Tuple_tuple (I.ok.hd hc) ht (by simp [hn,← hl,rv.length]) hst fun h' hx=>?_
  have I1:Inv X pins σ H { s with heap:=h' }:=I.kept (t':=s.toks) fun b o e=>hx b o (Nat.ne_of_lt (Heap.lt_size e)) e
  exact h pins _ σ H xs _ Q I1 (by simpa using rv) hw
def gSub (to ti:TE) (t:TSet):TG:=fun v σ H Q=>to σ H fun o H1=>ti σ H1 fun i H2=>t o i v H2 fun H3=>Q σ H3
theorem pg_sub {o i:Expr} {to ti:TE} {t:TSet} (ho:PE X o to) (hi:PE X i ti) (hs:PSet X t)
    (ha:∀ v,assign (.Subscript o i pos) X.env v=(do
      let ov ← holding [v] (eval o X.env)
      let iv ← holding [v,ov] (eval i X.env)
      standAt pos
      holding [v,ov,iv] (setItem ov iv v)
      release [v,ov,iv] []):=by intro _;rfl):PG X (.Subscript o i pos) (gSub to ti t):=by
  intro pins s σ H v u Q I r h
  rw [ha]
  refine wpAny_bind (wpAny_holding (thn (ho pins s σ H _ I h) fun ov s1 ⟨x,H1,I1,r1,q1⟩=>?_))
  refine wpAny_bind (wpAny_holding (thn (hi pins s1 σ H1 _ I1 q1) fun iv s2 ⟨y,H2,I2,r2,q2⟩=>?_))
  refine wpAny_bind (wpAny_standAt (wpAny_bind (wpAny_holding (thn (hs pins s2 σ H2 x y v ov iv u _ I2 r1 r2 r q2) fun _ s3 ⟨H3,I3,q3⟩=>?_))))
  exact wpAny_release ⟨σ,H3,I3,q3⟩
def tAsg (te:TE) (g:TG):TS:=fun D σ H=>te σ H fun x H1=>g x σ H1 D.nx
theorem ps_asg {tg e:Expr} {te:TE} {g:TG} (he:PE X e te) (hg:PG X tg g) (hs:swapsWithSole [tg] e pos.line X.env=pure false:=by rfl) (hw:swappedStores [tg] e X.env=pure none:=by rfl)
    (h1:(assignEach [tg] X.env).map (·.2)=[assign tg X.env]:=by rfl):PS X (.Assign [tg] e pos) (tAsg te g):=by
  intro pins s σ H D I h
  refine wpAny_Assign_stores (thn (he pins s σ H _ I h) fun v s1 ⟨x,H1,I1,r1,q1⟩=>?_) hs hw
  rw [h1]
  exact thn (hg pins s1 σ H1 x v _ I1 r1 q1) fun _ s2 q=>q
theorem ps_set {i:Nat} {x:Str} {e:Expr} {te:TE} {pos':Pos} (hN:X.N.Nodup) (hi:X.N[i]? = some x) (hx:Loc X.env.scope x) (he:PE X e te) (hs:swapsWith e (some (.Name x pos')) pos.line X.env=pure false:=by rfl) (hf:X.fn x=true∨X.env.scope.names.lookup x=some .local:=by first | exact .inl rfl | exact .inr rfl | assumption) :
    PS X (.Assign [.Name x pos'] e pos) (tAsg te (gName i)):=by
  intro pins s σ H D I h
  refine wpAny_Assign_Name (thn (he pins s σ H _ I h) fun v s1 ⟨y,H1,I1,r1,q1⟩=>?_) hs
  exact store_ok I1 hN hi hx r1 (fun s2 I2=>⟨_,H1,I2,q1⟩) hf
end
section
variable {X:Cx} {pos:Pos}
def tWhile (c:TT) (tb:TS):TS:=fun D σ H=>∃ W:Nat→St→Hp→Prop,(∃ m,W m σ H)∧∀ m σ H,W m σ H →
  c σ H fun b H1=>if b=true then ∃ N:St→Hp→Prop,(∀ σ' H',N σ' H'→∃ m',m' < m∧W m' σ' H')∧tb { D with nx:=N,ct:=N,bk:=D.nx } σ H1 else D.nx σ H1
theorem ps_while {c:Expr} {body:List Stmt} {tc:TT} {tb:TS} (hp:PassesOwn (model X.prog X.w) X.A X.env X.xe) (hc:PT X c tc) (hb:PSs X body tb):PS X (.While c body [] pos) (tWhile tc tb):=by
  intro pins s σ H D I h
  obtain ⟨W,⟨m0,w0⟩,turn⟩:=h
  refine wpAny_While (codeAny_whileLoop (fun n s'=>∃ σ' H',Inv X pins σ' H' s'∧W n σ' H') ?_ m0 ⟨σ,H,I,w0⟩)
  rintro n s1 ⟨σ1,H1,I1,w1⟩
  refine wpAny_passesOwn hp (thn (hc pins s1 σ1 H1 _ I1 (turn n σ1 H1 w1)) fun b s2 ⟨H2,I2,q2⟩=>?_)
  cases b with
  | true =>
    obtain ⟨N,hN,q2⟩:=q2
    rw [if_pos rfl]
    refine wpAny_passesOwn hp (thn (hb pins s2 σ1 H2 _ I2 q2) fun f s3 q3=>?_)
    cases f with
    | next =>
      obtain ⟨σ3,H3,I3,n3⟩:=q3
      obtain ⟨m',hm,w3⟩:=hN σ3 H3 n3
      exact ⟨m',hm,σ3,H3,I3,w3⟩
    | cont =>
      obtain ⟨σ3,H3,I3,n3⟩:=q3
      obtain ⟨m',hm,w3⟩:=hN σ3 H3 n3
      exact ⟨m',hm,σ3,H3,I3,w3⟩
    | brk=>exact q3
    | ret v=>exact q3
  | false =>
    rw [if_neg Bool.false_ne_true]
    exact wpAny_execs_nil ⟨σ1,H2,I2,q2⟩
end
structure It where
  go:Nat→Hp→Prop
  yld:Nat→Hp→V→Hp→Prop
  stop:Nat→Hp→Prop
def FpOk (X:Cx) (pins:List (Addr × Obj)) (H:Hp) (b:Addr):Prop :=
  H b=none∧b≠X.env.locals∧b ∉ X.fs∧(b∈X.ex∨X.s₀.heap.objs.size≤b)∧(∀ x c,X.env.cells.lookup x=some c→c≠b)∧∀ p∈X.pn++pins,p.1≠b
theorem Inv.fpOk {X:Cx} {pins:List (Addr × Obj)} {σ:St} {H H':Hp} {s:Shared} {b:Addr} (I:Inv X pins σ H s) (hb:s.heap.objs.size≤b) (hn:H' b=none):FpOk X pins H' b:=by
  refine ⟨hn,Nat.ne_of_gt (Nat.lt_of_lt_of_le I.lt hb),I.nofs hb,.inr (Nat.le_trans I.sz hb),fun x c e z=>?_,fun p hp z=>?_⟩
  · obtain ⟨v,q⟩:=I.cell x c e
    exact absurd (Nat.lt_of_lt_of_le q.lt (by rw [z];exact hb)) (Nat.lt_irrefl _)
  · exact absurd (Nat.lt_of_lt_of_le (Heap.lt_size (I.pin p hp).1) (by rw [z];exact hb)) (Nat.lt_irrefl _)
structure Turn (P:Program) (w:World) (K:PySem.W.Frag) (tg:Expr) (J:It) (fp:List Addr) (it:Addr) (tn:Nat→Heap→Prop):Prop where
  mem:it∈fp
  obj:∀ i h,tn i h→∀ b∈fp,∃ o,h.get? b=some o∧∀ v,o.data≠.cell v
  keep:∀ i h h',tn i h→(∀ b∈fp,∀ o,h.get? b=some o→h'.get? b=some o)→tn i h'
  item:∀ (X:Cx),X.prog=P→X.w=w→X.K=K→X.calm=true→∀ (i:Nat) (pins:List (Addr × Obj)) (s:Shared) (σ:St) (H:Hp) (E:Value→Shared→Prop),Inv X pins σ H s→(∀ b∈fp,FpOk X pins H b)→tn i s.heap→J.go i H →
    wpAny (model P w) X.A (pyNext (.ref it)) (fun r s1=>∃ u,r=some u ∧
      wpAny (model P w) X.A (letOwnedTupleGo tg (.ref it) u) (fun _ s2=>∃ x H',Inv X pins σ H' s2∧RelV x u∧J.yld i H x H'∧tn (i+1) s2.heap∧∀ b∈fp,H' b=none) E s1) E s
  done:∀ (X:Cx),X.prog=P→X.w=w→X.K=K→X.calm=true→∀ (i:Nat) (pins:List (Addr × Obj)) (s:Shared) (σ:St) (H:Hp) (E:Value→Shared→Prop),Inv X pins σ H s→(∀ b∈fp,FpOk X pins H b)→tn i s.heap→J.stop i H →
    wpAny (model P w) X.A (pyNext (.ref it)) (fun r s1=>r=none∧Inv X pins σ H s1) E s
  self:∀ (A:Around) (i:Nat) (s:Shared) (Q:Value→Shared→Prop) (E:Value→Shared→Prop),tn i s.heap→Q (.ref it) s→wpAny (model P w) A (pyIter (.ref it)) Q E s
abbrev TI:=St→Hp→(It→Hp→Prop)→Prop
def PIE (X:Cx) (pins:List (Addr × Obj)) (σ:St) (tg:Expr) (R:It→Hp→Prop) (itv:Value) (s2:Shared):Prop :=
  ∃ (it:Addr) (fp:List Addr) (tn:Nat→Heap→Prop) (J:It) (H':Hp),itv=.ref it∧Inv X pins σ H' s2∧Turn X.prog X.w X.K tg J fp it tn∧tn 0 s2.heap∧(∀ b∈fp,FpOk X pins H' b)∧R J H'
def PI (X:Cx) (tg iter:Expr) (wi:TI):Prop :=
  ∀ (pins:List (Addr × Obj)) (s:Shared) (σ:St) (H:Hp) (R:It→Hp→Prop),Inv X pins σ H s→wi σ H R →
    wpAny (model X.prog X.w) X.A (eval iter X.env) (fun v s1=>wpAny (model X.prog X.w) X.A (pyIter v) (PIE X pins σ tg R) X.xe s1) X.xe s
theorem go_of {M:Model} {A:Around} {E:Value→Shared→Prop} {s:Shared} {tg:Expr} {it:Addr} {u:Value} {o:Obj} {n:String} {vs:Array Value} {Q:Unit→Shared→Prop} (ho:s.heap.get? it=some o) (hc:o.cls=.type n) (hd:o.data=.fields vs)
    (hn:["enumerate","zip","dict_itemiterator","dict_reverseitemiterator","odict_iterator","itertools.zip_longest","itertools.pairwise"].contains n=false) (hQ:Q () s):wpAny M A (letOwnedTupleGo tg (.ref it) u) Q E s:=by
  unfold letOwnedTupleGo
  cases tg <;> first
    | exact wpAny_pure hQ
    | (cases u <;> first
        | exact wpAny_pure hQ
        | (refine wpAny_bind (wpAny_load ho ?_)
           rw [hc,hd]
           show wpAny M A (if (["enumerate","zip","dict_itemiterator","dict_reverseitemiterator","odict_iterator","itertools.zip_longest","itertools.pairwise"].contains n && vs[0]? == some (rawInt _))=true then _ else _) Q E s
           rw [if_neg (by intro h;rw [hn,Bool.false_and] at h;cases h)]
           exact wpAny_pure hQ))
def Itl (K:PySem.W.Frag) (a:Addr):It :=
  ⟨fun i H=>∃ xs x,SqL K H a xs∧xs[i]? = some x,fun i H x H'=>H'=H∧∀ xs,SqL K H a xs→xs[i]? = some x,fun i H=>∃ xs,SqL K H a xs∧xs.length≤i⟩
def Itr (lo:Int) (n:Nat):It:=⟨fun i _=>i < n,fun i H x H'=>H'=H∧x=.int (lo+i),fun i _=>n≤i⟩
theorem turn_list {P:Program} {w:World} {K:PySem.W.Frag} {tg:Expr} (a it:Addr):Turn P w K tg (Itl K a) [it] it (fun i h=>h.IsListIter it a i) where
  mem:=by simp
  obj:=fun i h st b hb=>by
    have e:b=it:=by simpa using hb
    subst e
    obtain ⟨o,e,c,d⟩:=st
    exact ⟨o,e,fun v z=>by rw [d] at z;cases z⟩
  keep:=fun i h h' st k=>st.at fun o e=>k it (by simp) o e
  item:=by
    intro X hP hw hK hc i pins s σ H E I hf st hg
    subst hP hw hK
    obtain ⟨xs,x,hq,hx⟩:=hg
    obtain ⟨its,rv,p,hz⟩:=I.list hq
    obtain ⟨u,hu,ru⟩:=rv.get hx
    obtain ⟨f0,f1,f2,f3,f4,f5⟩:=hf it (by simp)
    refine wpAny_pyNext_list_item st p.isList (x:=u) (by simpa using hu) fun h' st' sb=>?_
    have I1:Inv X pins σ H { s with heap:=h' }:=I.turned (t':=s.toks) (fun b o hb e=>(sb.2 b hb).trans e) f0 f1 f3 f4 f5
    obtain ⟨o,e,c,d⟩:=id st'
    exact ⟨u,rfl,go_of (s:={ s with heap:=h' }) e c d (by decide) ⟨x,H,I1,ru,⟨rfl,fun ys hy=>by rw [I.list_inj hy hq];exact hx⟩,st',fun b hb=>(hf b hb).1⟩⟩
  done:=by
    intro X hP hw hK hc i pins s σ H E I hf st hg
    subst hP hw hK
    obtain ⟨xs,hq,hx⟩:=hg
    obtain ⟨its,rv,p,hz⟩:=I.list hq
    obtain ⟨f0,f1,f2,f3,f4,f5⟩:=hf it (by simp)
    have hl:=rv.length
    exact wpAny_pyNext_list_end (I.ok.hd hc) st p.isList (by simp;omega) fun h' eb=>⟨rfl,I.turned (t':=s.toks) (fun b o hb e=>eb b o hb e) f0 f1 f3 f4 f5⟩
  self:=fun _ _ _ _ _ st h=>wpAny_pyIter_listiter st h
theorem turn_range {P:Program} {w:World} {K:PySem.W.Frag} {tg:Expr} (it:Addr) (lo:Int) (n:Nat):Turn P w K tg (Itr lo n) [it] it (fun i h=>IsRangeIter h it (lo+(i:Nat) * 1) ((n:Int) - (i:Nat)) 1) where
  mem:=by simp
  obj:=fun i h st b hb=>by
    have e:b=it:=by simpa using hb
    subst e
    exact ⟨_,st,fun v z=>by
      have z':Data.fields _=Data.cell v:=z
      cases z'⟩
  keep:=fun i h h' st k=>k it (by simp) _ st
  item:=by
    intro X hP hw hK hc i pins s σ H E I hf st hg
    subst hP hw hK
    obtain ⟨f0,f1,f2,f3,f4,f5⟩:=hf it (by simp)
    have W:=Walks.range (prog:=X.prog) (w:=X.w) (I.ok.hd hc) it lo 1 n
    refine W.item i s _ _ hg st fun v h' tk hv st' kk=>?_
    obtain ⟨t,rfl⟩:=hv
    have I1:Inv X pins σ H { s with heap:=h',toks:=tk }:=I.turned (fun b o hb e=>kk b o (by simpa using hb) e) f0 f1 f3 f4 f5
    refine ⟨_,rfl,go_of (s:={ s with heap:=h',toks:=tk }) (n:="range_iterator") st' rfl rfl (by decide) ⟨.int (lo+i),H,I1,⟨t,?_⟩,⟨rfl,rfl⟩,st',fun b hb=>(hf b hb).1⟩⟩
    rw [Int.mul_one]
  done:=by
    intro X hP hw hK hc i pins s σ H E I hf st hg
    subst hP hw hK
    obtain ⟨f0,f1,f2,f3,f4,f5⟩:=hf it (by simp)
    exact wpAny_pyNext_range_end (I.ok.hd hc) st (by have:n≤i:=hg;omega) fun h' eb=>⟨rfl,I.turned (t':=s.toks) (fun b o hb e=>eb b o hb e) f0 f1 f3 f4 f5⟩
  self:=fun _ _ _ _ _ st h=>wpAny_pyIter_rangeiter st h
end L2
namespace L2
open PySem PySem.Spec PyProof.Rows
section
variable {X:Cx} {tg:Expr}
def iList (K:PySem.W.Frag) (tl:TE):TI:=fun σ H R=>tl σ H fun x H1=>∃ a,x=.ref a∧(∃ xs,SqL K H1 a xs)∧R (Itl K a) H1
theorem pi_list {l:Expr} {tl:TE} (hl:PE X l tl):PI X tg l (iList X.K tl):=by
  intro pins s σ H R I h
  refine thn (hl pins s σ H _ I h) fun v s1 ⟨x,H1,I1,r1,q1⟩=>?_
  obtain ⟨a,e,⟨xs,hq⟩,q⟩:=q1
  subst e
  cases r1
  obtain ⟨its,rv,p,hz⟩:=I1.list hq
  refine wpAny_pyIter_list p.isList ?_
  refine ⟨s1.heap.objs.size,[s1.heap.objs.size],_,_,H1,rfl,I1.kept (t':=s1.toks) fun b o e=>Heap.get?_push_of_some _ e,turn_list a _,⟨_,Heap.get?_push_size _ rfl,rfl,rfl⟩,fun b hb=>?_,q⟩
  have e:b=s1.heap.objs.size:=by simpa using hb
  subst e
  exact I1.fpOk (Nat.le_refl _) (I1.hok.fresh (Nat.le_refl _))
theorem range_it {pins:List (Addr × Obj)} {σ:St} {H:Hp} {s:Shared} {R:It→Hp→Prop} {E:Value→Shared→Prop} {lo hi:Int} {t u v:Tok} {tk:Nat} (I:Inv X pins σ H s) (h1:-(2 ^ 62)≤lo) (h2:lo < 2 ^ 62) (h3:-(2 ^ 62)≤hi) (h4:hi < 2 ^ 62)
    (q:R (Itr lo (hi - lo).toNat) H):wpAny (model X.prog X.w) X.A (pyIter (.ref s.heap.objs.size)) (PIE X pins σ tg R) E { s with heap:=s.heap.push { cls:=.type "range",data:=.fields #[.int lo t,.int hi u,.int 1 v] },toks:=tk }:=by
  refine wpAny_pyIter_range (IsRange.new ..) (small_one h1 h2 h3 h4) ?_
  have I1:Inv X pins σ H { s with heap:=s.heap.push { cls:=.type "range",data:=.fields #[.int lo t,.int hi u,.int 1 v] },toks:=tk }:=I.kept fun b o e=>Heap.get?_push_of_some _ e
  refine ⟨(s.heap.push { cls:=.type "range",data:=.fields #[.int lo t,.int hi u,.int 1 v] }).objs.size,[(s.heap.push { cls:=.type "range",data:=.fields #[.int lo t,.int hi u,.int 1 v] }).objs.size],_,_,H,rfl,
    I1.kept (t':=tk) fun b o e=>Heap.get?_push_of_some _ e,turn_range _ lo (hi - lo).toNat,?_,fun b hb=>?_,q⟩
  · have e1:lo+((0:Nat):Int) * 1=lo:=by simp
    have e2:(((hi - lo).toNat:Nat):Int) - ((0:Nat):Int)=Builtin.Range.rangeSize lo hi 1:=by rw [rangeSize_one];split <;> omega
    show IsRangeIter _ _ (lo+((0:Nat):Int) * 1) ((((hi - lo).toNat:Nat):Int) - ((0:Nat):Int)) 1
    rw [e1,e2]
    exact Heap.get?_push_size _ rfl
  · have e:b=(s.heap.push { cls:=.type "range",data:=.fields #[.int lo t,.int hi u,.int 1 v] }).objs.size:=by simpa using hb
    subst e
    exact I1.fpOk (Nat.le_refl _) (I1.hok.fresh (Nat.le_refl _))
def iRng1 (ta:TA):TI:=fun σ H R=>ta σ H fun vs H1=>∃ j:Int,vs=[.int j]∧-(2 ^ 62)≤j∧j < 2 ^ 62∧R (Itr 0 j.toNat) H1
theorem pi_range1 {a:Expr} {ta:TA} {p pos:Pos} (hg:Gl X "range") (hm:X.mg "range" = none) (ha:PA X [a] ta) (hs:starEach [a] X.env=[(false,eval a X.env)]:=by rfl):PI X tg (.Call (.Name "range" p) [a] [] pos) (iRng1 ta):=by
  intro pins s σ H R I h
  refine Call_ (ld_blt I hg hm boot_range (PyProof.Rows.callWith_type1 (thn (ha pos pins s σ H _ I h) fun us s1 ⟨vs,H1,I1,r1,q1⟩=>?_) hs rfl))
  obtain ⟨j,e,q1,q2,q⟩:=q1
  subst e
  cases r1 with
  | cons r rr =>
    cases rr
    obtain ⟨t,rfl⟩:=r
    exact call_range_1 (range_it I1 (by omega) (by omega) q1 q2 (by simpa using q))
def tFor (wi:TI) (g:TG) (tb:TS):TS:=fun D σ H=>wi σ H fun J H1=>∃ W:Nat→Nat→St→Hp→Prop,(∃ m,W 0 m σ H1)∧∀ i m σ H,W i m σ H →
  (J.stop i H∧D.nx σ H)∨(J.go i H∧∃ N:St→Hp→Prop,(∀ σ' H',N σ' H'→∃ m',m' < m∧W (i+1) m' σ' H')∧∀ x H',J.yld i H x H'→g x σ H' fun σ2 H2=>tb { D with nx:=N,ct:=N,bk:=D.nx } σ2 H2)
def pinsAt (fp:List Addr) (h:Heap):List (Addr × Obj):=fp.filterMap fun b=>(h.get? b).map fun o=>(b,o)
theorem mem_pinsAt {fp:List Addr} {h:Heap} {b:Addr} {o:Obj} (hb:b∈fp) (e:h.get? b=some o):(b,o)∈pinsAt fp h:=List.mem_filterMap.mpr ⟨b,hb,by rw [e];rfl⟩
theorem of_pinsAt {fp:List Addr} {h:Heap} {p:Addr × Obj} (hp:p∈pinsAt fp h):p.1∈fp∧h.get? p.1=some p.2:=by
  obtain ⟨b,hb,e⟩:=List.mem_filterMap.mp hp
  cases q:h.get? b with
  | none=>rw [q] at e;cases e
  | some o =>
    rw [q] at e
    have e':(b,o)=p:=Option.some.inj e
    subst e'
    exact ⟨hb,q⟩
theorem Inv.pinned {pins:List (Addr × Obj)} {σ:St} {H:Hp} {s:Shared} {fp:List Addr} (I:Inv X pins σ H s) (hf:∀ b∈fp,FpOk X pins H b) (ho:∀ b∈fp,∃ o,s.heap.get? b=some o∧∀ v,o.data≠.cell v):Inv X (pins++pinsAt fp s.heap) σ H s :=
  I.pins_of fun p hp=>(List.mem_append.mp hp).elim (fun z=>I.pin p (List.mem_append_right _ z)) fun z=>by
    obtain ⟨hb,e⟩:=of_pinsAt z
    obtain ⟨f0,f1,f2,_⟩:=hf p.1 hb
    obtain ⟨o,e',d⟩:=ho p.1 hb
    rw [e] at e';cases e'
    exact ⟨e,f0,f1,f2,d⟩
theorem Inv.unpinned {pins pl:List (Addr × Obj)} {σ:St} {H:Hp} {s:Shared} (I:Inv X (pins++pl) σ H s):Inv X pins σ H s:=I.pins_of fun p hp=>I.pin p (List.mem_append_right _ (List.mem_append_left _ hp))
theorem ps_for {iter:Expr} {body:List Stmt} {wi:TI} {g:TG} {tb:TS} {pos:Pos} (hp:PassesOwn (model X.prog X.w) X.A X.env X.xe) (hc:X.calm=true) (hi:PI X tg iter wi) (hg:PG X tg g) (hb:PSs X body tb)
    (hs:∀ x,foldedSetIterable iter X.env x=pure x:=by intro _;rfl):PS X (.For tg iter body [] pos) (tFor wi g tb):=by
  intro pins s σ H D I h
  refine wpAny_For (thn (hi pins s σ H _ I h) fun v s1 h1=>thn h1 fun itv s2 h2=>?_) hs
  obtain ⟨it,fp,tn,J,H2,e,I2,T,st2,f2,W,⟨m0,w0⟩,turn⟩:=h2
  subst e
  -- what stays true of the iterator's objects through the loop
  have stat:∀ {H':Hp},(∀ b∈fp,H' b=none)→∀ b∈fp,FpOk X pins H' b:=fun hn b hb=>⟨hn b hb,(f2 b hb).2⟩
  refine codeAny_forLoop_any (fun n s'=>∃ i σ' H',Inv X pins σ' H' s'∧tn i s'.heap∧(∀ b∈fp,H' b=none)∧W i n σ' H') ?_ m0 ⟨0,σ,H2,I2,st2,fun b hb=>(f2 b hb).1,w0⟩
  rintro n s3 ⟨i,σ3,H3,I3,st3,fr3,w3⟩
  rcases turn i n σ3 H3 w3 with ⟨stop,qn⟩ | ⟨go,N,hN,step⟩
  · refine wpAny_passesOwn hp (thn (T.done X rfl rfl rfl hc i pins s3 σ3 H3 X.xe I3 (stat fr3) st3 stop) fun r s4 ⟨hr,I4⟩=>?_)
    subst hr
    exact wpAny_execs_nil ⟨σ3,H3,I4,qn⟩
  · refine wpAny_passesOwn hp (thn (T.item X rfl rfl rfl hc i pins s3 σ3 H3 X.xe I3 (stat fr3) st3 go) fun r s4 ⟨u,hr,h4⟩=>?_)
    subst hr
    refine wpAny_passesOwn hp (thn h4 fun _ s5 ⟨x,H5,I5,r5,y5,st5,fr5⟩=>?_)
    have I5':=I5.pinned (stat fr5) (T.obj _ _ st5)
    refine wpAny_passesOwn hp (thn (hg _ s5 σ3 H5 x u _ I5' r5 (step x H5 y5)) fun _ s6 ⟨σ6,H6,I6,q6⟩=>?_)
    refine wpAny_passesOwn hp (thn (hb _ s6 σ6 H6 _ I6 q6) fun f s7 q7=>?_)
    have again:∀ {σ7:St} {H7:Hp},Inv X (pins++pinsAt fp s5.heap) σ7 H7 s7→N σ7 H7→∃ m,m < n∧∃ i σ' H',Inv X pins σ' H' s7∧tn i s7.heap∧(∀ b∈fp,H' b=none)∧W i m σ' H':=fun {σ7 H7} I7 n7=>by
      obtain ⟨m',hm,w7⟩:=hN σ7 H7 n7
      refine ⟨m',hm,i+1,σ7,H7,I7.unpinned,T.keep _ _ _ st5 fun b hb o e=>(I7.pin (b,o) (List.mem_append_right _ (List.mem_append_right _ (mem_pinsAt hb e)))).1,fun b hb=>?_,w7⟩
      obtain ⟨o,e,d⟩:=T.obj _ _ st5 b hb
      exact (I7.pin (b,o) (List.mem_append_right _ (List.mem_append_right _ (mem_pinsAt hb e)))).2.1
    cases f with
    | next=>obtain ⟨σ7,H7,I7,n7⟩:=q7;exact again I7 n7
    | cont=>obtain ⟨σ7,H7,I7,n7⟩:=q7;exact again I7 n7
    | brk=>obtain ⟨σ7,H7,I7,q7⟩:=q7;exact ⟨σ7,H7,I7.unpinned,q7⟩
    | ret v=>obtain ⟨x7,σ7,H7,I7,r7,q7⟩:=q7;exact ⟨x7,σ7,H7,I7.unpinned,r7,q7⟩
end
end L2
namespace L2
open PySem PySem.Spec PyProof.Rows
abbrev R2:=V→V→Hp→VK→Prop
def OpR (X:Cx) (f:Value→Value→Sem Value) (r:R2):Prop :=
  ∀ (pins:List (Addr × Obj)) (s:Shared) (σ:St) (H:Hp) (x y:V) (v u:Value) (Q:VK),Inv X pins σ H s→RelV x v→RelV y u→r x y H Q →
    wpAny (model X.prog X.w) X.A (f v u) (EP X pins σ Q) X.xe s
def UnR (X:Cx) (f:Value→Sem Value) (r:V→Hp→VK→Prop):Prop :=
  ∀ (pins:List (Addr × Obj)) (s:Shared) (σ:St) (H:Hp) (x:V) (v:Value) (Q:VK),Inv X pins σ H s→RelV x v→r x H Q →
    wpAny (model X.prog X.w) X.A (f v) (EP X pins σ Q) X.xe s
def CallR (X:Cx) (f:Value) (r:List V→Hp→VK→Prop):Prop :=
  ∀ (pins:List (Addr × Obj)) (s:Shared) (σ:St) (H:Hp) (xs:List V) (us:List Value) (Q:VK),Inv X pins σ H s→Vals xs us→r xs H Q →
    wpAny (model X.prog X.w) X.A (call f us) (EP X pins σ Q) X.xe s
def TruR (X:Cx) (r:V→Hp→(Bool→Hp→Prop)→Prop):Prop :=
  ∀ (pins:List (Addr × Obj)) (s:Shared) (σ:St) (H:Hp) (x:V) (v:Value) (Q:Bool→Hp→Prop),Inv X pins σ H s→RelV x v→r x H Q →
    wpAny (model X.prog X.w) X.A (truthy v) (TP X pins σ Q) X.xe s
def tOp (r:R2) (ta tb:TE):TE:=fun σ H Q=>ta σ H fun x H1=>tb σ H1 fun y H2=>r x y H2 Q
def tUn (r:V→Hp→VK→Prop) (ta:TE):TE:=fun σ H Q=>ta σ H fun x H1=>r x H1 Q
def rI (C:Int→Int→Prop) (g:Int→Int→V):R2:=fun x y H Q=>∃ i j,x=.int i∧y=.int j∧C i j∧Q (g i j) H
def rI0 (g:Int→Int→V):R2:=fun x y H Q=>∃ i j,x=.int i∧y=.int j∧Q (g i j) H
def rU (g:Int→V):V→Hp→VK→Prop:=fun x H Q=>∃ i,x=.int i∧Q (g i) H
section
variable {X:Cx} {a b c:Expr} {ta tb tc:TE} {pos:Pos}
theorem binT (ha:PE X a ta) (hb:PE X b tb) {pins:List (Addr × Obj)} {s:Shared} {σ:St} {H:Hp} {R:V→V→Hp→Prop} (I:Inv X pins σ H s)
    (h:ta σ H fun x H1=>tb σ H1 fun y H2=>R x y H2) {Q:Value→Shared→Prop} {f:Value→Value→Sem Value}
    (hf:∀ v u s2 x y H2,Inv X pins σ H2 s2→RelV x v→RelV y u→R x y H2→wpAny (model X.prog X.w) X.A (f v u) Q X.xe s2) :
    wpAny (model X.prog X.w) X.A (eval a X.env) (fun v s₁=>wpAny (model X.prog X.w) X.A (eval b X.env) (fun u s₂=>wpAny (model X.prog X.w) X.A (f v u) Q X.xe s₂) X.xe s₁) X.xe s:=by
  refine thn (ha pins s σ H _ I h) fun v s1 ⟨x,H1,I1,r1,q1⟩=>?_
  refine thn (hb pins s1 σ H1 _ I1 q1) fun u s2 ⟨y,H2,I2,r2,q2⟩=>?_
  exact hf v u s2 x y H2 I2 r1 r2 q2
theorem pe_op {op:Operator} {r:R2} (ho:OpR X (binaryOp op) r) (ha:PE X a ta) (hb:PE X b tb):PE X (.BinOp a op b pos) (tOp r ta tb):=by
  intro pins s σ H Q I h
  exact wpAny_BinOp (binT ha hb I h fun v u s2 x y H2 I2 rx ry q=>ho pins s2 σ H2 x y v u Q I2 rx ry q)
theorem pe_un {op:UnaryOp} {r:V→Hp→VK→Prop} (ho:UnR X (unaryOp op) r) (ha:PE X a ta):PE X (.UnaryOp op a pos) (tUn r ta):=by
  intro pins s σ H Q I h
  exact UnaryOp_ (thn (ha pins s σ H _ I h) fun v s1 ⟨x,H1,I1,r1,q1⟩=>ho pins s1 σ H1 x v Q I1 r1 q1)
theorem opI {f:Value→Value→Sem Value} {C:Int→Int→Prop} {g:Int→Int→Int}
    (rule:∀ (i j:Int) (t u:Tok) (s:Shared) (Q:Value→Shared→Prop) (E:Value→Shared→Prop),C i j→Q (.int (g i j) s.toks) { s with toks:=s.toks+1 }→wpAny (model X.prog X.w) X.A (f (.int i t) (.int j u)) Q E s) :
    OpR X f (rI C fun i j=>.int (g i j)):=by
  intro pins s σ H x y v u Q I rx ry h
  obtain ⟨i,j,rfl,rfl,hc,q⟩:=h
  obtain ⟨t,rfl⟩:=rx
  obtain ⟨t',rfl⟩:=ry
  exact rule i j t t' s _ _ hc ⟨.int (g i j),H,I.tok _,⟨_,rfl⟩,q⟩
theorem opI0 {f:Value→Value→Sem Value} {g:Int→Int→Int}
    (rule:∀ (i j:Int) (t u:Tok) (s:Shared) (Q:Value→Shared→Prop) (E:Value→Shared→Prop),Q (.int (g i j) s.toks) { s with toks:=s.toks+1 }→wpAny (model X.prog X.w) X.A (f (.int i t) (.int j u)) Q E s) :
    OpR X f (rI0 fun i j=>.int (g i j)):=by
  intro pins s σ H x y v u Q I rx ry h
  obtain ⟨i,j,rfl,rfl,q⟩:=h
  obtain ⟨t,rfl⟩:=rx
  obtain ⟨t',rfl⟩:=ry
  exact rule i j t t' s _ _ ⟨.int (g i j),H,I.tok _,⟨_,rfl⟩,q⟩
theorem opB0 {f:Value→Value→Sem Value} {g:Int→Int→Bool}
    (rule:∀ (i j:Int) (t u:Tok) (s:Shared) (Q:Value→Shared→Prop) (E:Value→Shared→Prop),Q (.bool (g i j)) s→wpAny (model X.prog X.w) X.A (f (.int i t) (.int j u)) Q E s) :
    OpR X f (rI0 fun i j=>.bl (g i j)):=by
  intro pins s σ H x y v u Q I rx ry h
  obtain ⟨i,j,rfl,rfl,q⟩:=h
  obtain ⟨t,rfl⟩:=rx
  obtain ⟨t',rfl⟩:=ry
  exact rule i j t t' s _ _ ⟨.bl (g i j),H,I,rfl,q⟩
def CDiv (i j:Int):Prop:=0 < j∧j < 1073741824
def CPow (i j:Int):Prop:=0≤j∧j≤1000000∧i.natAbs < 2 ^ 64
def CMul (i j:Int):Prop:=(-(2 ^ 64) < i∧i < 2 ^ 64)∨(-(2 ^ 64) < j∧j < 2 ^ 64)
theorem CMul.ok {i j:Int} (h:CMul i j):IntMulOk i j:=by
  rcases h with ⟨h1,h2⟩ | ⟨h1,h2⟩
  · exact .of_left (intBits_le_64 h1 h2)
  · exact .of_right (intBits_le_64 h1 h2)
theorem op_add:OpR X (binaryOp .Add) (rI0 fun i j=>.int (i+j)):=opI0 fun _ _ _ _ _ _ _ q=>add_int q
theorem op_sub:OpR X (binaryOp .Sub) (rI0 fun i j=>.int (i - j)):=opI0 fun _ _ _ _ _ _ _ q=>sub_int q
theorem op_mul:OpR X (binaryOp .Mult) (rI CMul fun i j=>.int (i * j)):=opI fun _ _ _ _ _ _ _ hc q=>mul_int q hc.ok
theorem op_fdiv:OpR X (binaryOp .FloorDiv) (rI CDiv fun i j=>.int (i / j)):=opI fun i j _ _ _ _ _ hc q=>by
  have h1:(0:Int) < j:=hc.1
  have h2:j < 1073741824:=hc.2
  exact floordiv_int (by omega) (by rw [Int.fdiv_eq_ediv_of_nonneg i (by omega)];exact q) (.inl (PyProof.noPylong_small (by omega)))
theorem op_mod:OpR X (binaryOp .Mod) (rI (fun _ j=>0 < j) fun i j=>.int (i % j)):=opI fun i j _ _ _ _ _ hc q=>by
  have h1:(0:Int) < j:=hc
  exact mod_int' (by omega) (by rw [Int.fmod_eq_emod_of_nonneg i (by omega)];exact q)
theorem op_pow:OpR X (binaryOp .Pow) (rI CPow fun i j=>.int (i ^ j.toNat)):=opI fun _ _ _ _ _ _ _ hc q=>pow_int_small hc.1 hc.2.1 hc.2.2 q
theorem unI {f:Value→Sem Value} {g:Int→Int}
    (rule:∀ (i:Int) (t:Tok) (s:Shared) (Q:Value→Shared→Prop) (E:Value→Shared→Prop),Q (.int (g i) s.toks) { s with toks:=s.toks+1 }→wpAny (model X.prog X.w) X.A (f (.int i t)) Q E s) :
    UnR X f (rU fun i=>.int (g i)):=by
  intro pins s σ H x v Q I rx h
  obtain ⟨i,rfl,q⟩:=h
  obtain ⟨t,rfl⟩:=rx
  exact rule i t s _ _ ⟨.int (g i),H,I.tok _,⟨_,rfl⟩,q⟩
theorem un_neg:UnR X (unaryOp .USub) (rU fun i=>.int (-i)):=unI fun _ _ _ _ _ q=>neg_int q
end
def scal:V→V→Bool
  | .non,.non=>true | .non,.int _=>true | .int _,.non=>true | .non,.bl _=>true | .bl _,.non=>true | .non,.str _=>true | .str _,.non=>true
  | .int _,.int _=>true | .bl _,.bl _=>true | .str _,.str _=>true | .byt _,.byt _=>true
  | .int _,.str _=>true | .str _,.int _=>true | .bl _,.str _=>true | .str _,.bl _=>true
  | _,_=>false
def rEq:R2:=fun x y H Q=>scal x y=true∧Q (.bl (decide (x=y))) H
def rNe:R2:=fun x y H Q=>scal x y=true∧Q (.bl (!decide (x=y))) H
theorem dec_int {i j:Int}:decide (V.int i=V.int j)=(i == j):=by
  rw [Bool.eq_iff_iff]
  simp
theorem dec_bl {i j:Bool}:decide (V.bl i=V.bl j)=(i == j):=by
  rw [Bool.eq_iff_iff]
  simp
theorem dec_str {i j:Str}:decide (V.str i=V.str j)=(i == j):=by
  rw [Bool.eq_iff_iff]
  simp
theorem dec_byt {i j:Array UInt8}:decide (V.byt i=V.byt j)=(i.toList == j.toList):=by
  rw [Bool.eq_iff_iff]
  cases i
  cases j
  simp
section
variable {X:Cx} {a b c:Expr} {ta tb tc:TE} {pos:Pos}
theorem fin_bl {pins:List (Addr × Obj)} {σ:St} {H:Hp} {s:Shared} {Q:VK} {k k':Bool} (I:Inv X pins σ H s) (q:Q (.bl k) H) (e:k=k'):EP X pins σ Q (.bool k') s:=by
  subst e
  exact ⟨.bl k,H,I,rfl,q⟩
theorem op_eq:OpR X (compareOp .Eq) rEq:=by
  intro pins s σ H x y v u Q I rx ry h
  obtain ⟨hs,q⟩:=h
  cases x with
  | non =>
    cases rx
    cases y with
    | non=>cases ry;exact PySem.EqNone.eq_none_none (fin_bl I q (by simp))
    | bl j=>cases ry;exact PySem.EqNone.eq_none_bool (fin_bl I q (by simp))
    | int j=>obtain ⟨t',rfl⟩:=ry;exact PySem.EqNone.eq_none_int (fin_bl I q (by simp))
    | str j=>obtain ⟨t',rfl⟩:=ry;exact PySem.EqNone.eq_none_str (fin_bl I q (by simp))
    | _=>exact absurd (show false=true from hs) Bool.false_ne_true
  | bl i =>
    cases rx
    cases y with
    | non=>cases ry;exact PySem.EqNone.eq_bool_none (fin_bl I q (by simp))
    | bl j=>cases ry;exact eq_bool (fin_bl I q dec_bl)
    | str j=>obtain ⟨t',rfl⟩:=ry;exact PySem.EqMixed.eq_bool_str (fin_bl I q (by simp))
    | _=>exact absurd (show false=true from hs) Bool.false_ne_true
  | int i =>
    obtain ⟨t,rfl⟩:=rx
    cases y with
    | non=>cases ry;exact PySem.EqNone.eq_int_none (fin_bl I q (by simp))
    | int j=>obtain ⟨t',rfl⟩:=ry;exact eq_int (fin_bl I q dec_int)
    | str j=>obtain ⟨t',rfl⟩:=ry;exact PySem.EqMixed.eq_int_str (fin_bl I q (by simp))
    | _=>exact absurd (show false=true from hs) Bool.false_ne_true
  | str i =>
    obtain ⟨t,rfl⟩:=rx
    cases y with
    | non=>cases ry;exact PySem.EqNone.eq_str_none (fin_bl I q (by simp))
    | bl j=>cases ry;exact PySem.EqMixed.eq_str_bool (fin_bl I q (by simp))
    | int j=>obtain ⟨t',rfl⟩:=ry;exact PySem.EqMixed.eq_str_int (fin_bl I q (by simp))
    | str j=>obtain ⟨t',rfl⟩:=ry;exact eq_str (fin_bl I q dec_str)
    | _=>exact absurd (show false=true from hs) Bool.false_ne_true
  | byt i =>
    obtain ⟨t,rfl⟩:=rx
    cases y with
    | byt j=>obtain ⟨t',rfl⟩:=ry;exact PySem.W.eq_bytes (fin_bl I q dec_byt)
    | _=>exact absurd (show false=true from hs) Bool.false_ne_true
  | _=>cases y <;> exact absurd (show false=true from hs) Bool.false_ne_true
theorem op_ne:OpR X (compareOp .NotEq) rNe:=by
  intro pins s σ H x y v u Q I rx ry h
  obtain ⟨hs,q⟩:=h
  cases x with
  | non =>
    cases rx
    cases y with
    | non=>cases ry;exact PySem.EqNone.ne_none_none (fin_bl I q (by simp))
    | bl j=>cases ry;exact PySem.EqNone.ne_none_bool (fin_bl I q (by simp))
    | int j=>obtain ⟨t',rfl⟩:=ry;exact PySem.EqNone.ne_none_int (fin_bl I q (by simp))
    | str j=>obtain ⟨t',rfl⟩:=ry;exact PySem.EqNone.ne_none_str (fin_bl I q (by simp))
    | _=>exact absurd (show false=true from hs) Bool.false_ne_true
  | bl i =>
    cases rx
    cases y with
    | non=>cases ry;exact PySem.EqNone.ne_bool_none (fin_bl I q (by simp))
    | bl j=>cases ry;exact ne_bool (fin_bl I q (congrArg not dec_bl))
    | str j=>obtain ⟨t',rfl⟩:=ry;exact PySem.EqMixed.ne_bool_str (fin_bl I q (by simp))
    | _=>exact absurd (show false=true from hs) Bool.false_ne_true
  | int i =>
    obtain ⟨t,rfl⟩:=rx
    cases y with
    | non=>cases ry;exact PySem.EqNone.ne_int_none (fin_bl I q (by simp))
    | int j=>obtain ⟨t',rfl⟩:=ry;exact ne_int (fin_bl I q (congrArg not dec_int))
    | str j=>obtain ⟨t',rfl⟩:=ry;exact PySem.EqMixed.ne_int_str (fin_bl I q (by simp))
    | _=>exact absurd (show false=true from hs) Bool.false_ne_true
  | str i =>
    obtain ⟨t,rfl⟩:=rx
    cases y with
    | non=>cases ry;exact PySem.EqNone.ne_str_none (fin_bl I q (by simp))
    | bl j=>cases ry;exact PySem.EqMixed.ne_str_bool (fin_bl I q (by simp))
    | int j=>obtain ⟨t',rfl⟩:=ry;exact PySem.EqMixed.ne_str_int (fin_bl I q (by simp))
    | str j=>obtain ⟨t',rfl⟩:=ry;exact ne_str (fin_bl I q (congrArg not dec_str))
    | _=>exact absurd (show false=true from hs) Bool.false_ne_true
  | byt i =>
    obtain ⟨t,rfl⟩:=rx
    cases y with
    | byt j=>obtain ⟨t',rfl⟩:=ry;exact PySem.W.ne_bytes (fin_bl I q (congrArg not dec_byt))
    | _=>exact absurd (show false=true from hs) Bool.false_ne_true
  | _=>cases y <;> exact absurd (show false=true from hs) Bool.false_ne_true
theorem op_lt:OpR X (compareOp .Lt) (rI0 fun i j=>.bl (decide (i < j))):=opB0 fun _ _ _ _ _ _ _ q=>lt_int q
theorem op_le:OpR X (compareOp .LtE) (rI0 fun i j=>.bl (decide (i≤j))):=opB0 fun _ _ _ _ _ _ _ q=>le_int q
theorem op_gt:OpR X (compareOp .Gt) (rI0 fun i j=>.bl (decide (j < i))):=opB0 fun _ _ _ _ _ _ _ q=>gt_int q
theorem op_ge:OpR X (compareOp .GtE) (rI0 fun i j=>.bl (decide (j≤i))):=opB0 fun _ _ _ _ _ _ _ q=>ge_int q
theorem OpR.or {f:Value→Value→Sem Value} {r r':R2} (h:OpR X f r) (h':OpR X f r'):OpR X f (fun x y H Q=>r x y H Q∨r' x y H Q):=by
  intro pins s σ H x y v u Q I rx ry q
  rcases q with q | q
  · exact h pins s σ H x y v u Q I rx ry q
  · exact h' pins s σ H x y v u Q I rx ry q
theorem nomark (b:Expr) {op:CmpOp} (h:op≠.In:=by decide) (h2:op≠.NotIn:=by decide):behindInMarks op b=false:=by
  have e1:(op == CmpOp.In)=false:=by cases op <;> first | rfl | exact absurd rfl h
  have e2:(op == CmpOp.NotIn)=false:=by cases op <;> first | rfl | exact absurd rfl h2
  cases b <;> simp [behindInMarks,e1,e2]
theorem pe_cmpR {op:CmpOp} {r:R2} (ho:OpR X (compareOp op) r) (ha:PE X a ta) (hb:PE X b tb) (hm:behindInMarks op b=false):PE X (.Compare a [op] [b] pos) (tOp r ta tb):=by
  intro pins s σ H Q I h
  exact wpAny_Compare1 (binT ha hb I h fun v u s2 x y H2 I2 rx ry q=>ho pins s2 σ H2 x y v u Q I2 rx ry q) hm
def tTest (t:TE):TT:=fun σ H Q=>t σ H fun x H'=>∃ k,x=.bl k∧Q k H'
theorem pt_cmpR {op:CmpOp} {r:R2} (ho:OpR X (compareOp op) r) (ha:PE X a ta) (hb:PE X b tb) (hm:behindInMarks op b=false):PT X (.Compare a [op] [b] pos) (tTest (tOp r ta tb)):=by
  intro pins s σ H Q I h
  refine wpAny_isTrue_Compare1 (thn (ha pins s σ H _ I h) fun v s1 ⟨x,H1,I1,r1,q1⟩=>thn (hb pins s1 σ H1 _ I1 q1) fun u s2 ⟨y,H2,I2,r2,q2⟩ =>
    thn (ho pins s2 σ H2 x y v u _ I2 r1 r2 q2) fun c s3 ⟨z,H3,I3,r3,k,e,q3⟩=>?_) hm
  subst e
  cases r3
  exact wpAny_truthy_bool ⟨H3,I3,q3⟩
def tChain (r r':R2) (ta tb tc:TE):TE:=fun σ H Q=>ta σ H fun x H1=>tb σ H1 fun y H2=>r x y H2 fun z H3=>∃ k,z=.bl k ∧
  (if k=true then tc σ H3 fun w' H4=>r' y w' H4 Q else Q (.bl false) H3)
theorem pe_chain {op op':CmpOp} {r r':R2} (ho:OpR X (compareOp op) r) (ho':OpR X (compareOp op') r') (ha:PE X a ta) (hb:PE X b tb) (hc:PE X c tc)
    (hm:lastMarks [op,op'] [b,c]=false:=by with_unfolding_all rfl):PE X (.Compare a [op,op'] [b,c] pos) (tChain r r' ta tb tc):=by
  intro pins s σ H Q I h
  refine Compare_chain (thn (ha pins s σ H _ I h) fun v s1 ⟨x,H1,I1,r1,q1⟩=>chain_link (thn (hb pins s1 σ H1 _ I1 q1) fun u s2 ⟨y,H2,I2,r2,q2⟩ =>
    thn (ho pins s2 σ H2 x y v u _ I2 r1 r2 q2) fun d s3 ⟨z,H3,I3,r3,k,e,q3⟩=>?_)) hm
  subst e
  cases r3
  refine wpAny_truthy_bool ?_
  cases k with
  | false=>exact ite_ff ⟨.bl false,H3,I3,rfl,q3⟩
  | true=>exact ite_tt (chain_last (thn (hc pins s3 σ H3 _ I3 q3) fun w' s4 ⟨z',H4,I4,r4,q4⟩=>ho' pins s4 σ H4 y z' u w' Q I4 r2 r4 q4))
def TruV (K:PySem.W.Frag) (x:V) (H:Hp) (k:Bool):Prop :=
  match x with
  | .non=>k=false
  | .bl b=>k=b
  | .int i=>k=(i != 0)
  | .str y=>y.length≤sizeLine∧k=((y.length:Int) != 0)
  | .byt y=>y.size≤sizeLine∧k=((y.size:Int) != 0)
  | .ref p=>(∃ xs,SqL K H p xs∧k = !xs.isEmpty)∨(∃ xs,SqT K H p xs∧k = !xs.isEmpty)∨∃ kvs,H p=some (.dK kvs)∧k = !kvs.isEmpty
  | _=>False
theorem isEmpty_kv {κ:Type} {kvs:List (κ × V)} {vs:List (κ × Value)} (r:KV kvs vs):(!vs.isEmpty) = !kvs.isEmpty:=by
  cases r <;> rfl
theorem isEmpty_of {xs:List V} {its:List Value} (r:Vals xs its):(!its.toArray.isEmpty) = !xs.isEmpty:=by
  cases r <;> simp
theorem line63:(sizeLine:Nat) < 2 ^ 63:=by rw [sizeLine_eq];decide
theorem tru_ok:TruR X (fun x H Q=>∃ k,TruV X.K x H k∧Q k H):=by
  intro pins s σ H x v Q I rx h
  obtain ⟨k,e,q⟩:=h
  have hl:=line63
  have hs:sizeLine=16777216:=sizeLine_eq
  cases x with
  | non =>
    cases rx
    have e':k=false:=e
    subst e'
    exact truthy_none ⟨H,I,q⟩
  | bl b =>
    cases rx
    have e':k=b:=e
    subst e'
    exact wpAny_truthy_bool ⟨H,I,q⟩
  | int i =>
    obtain ⟨t,rfl⟩:=rx
    have e':k=(i != 0):=e
    subst e'
    exact PySem.P.truthy_int ⟨H,I,q⟩
  | str y =>
    obtain ⟨t,rfl⟩:=rx
    obtain ⟨hy,e'⟩:y.length≤sizeLine∧k=((y.length:Int) != 0):=e
    subst e'
    exact PySem.P.truthy_str (by omega) ⟨H,I.tok _,q⟩
  | byt y =>
    obtain ⟨t,rfl⟩:=rx
    obtain ⟨hy,e'⟩:y.size≤sizeLine∧k=((y.size:Int) != 0):=e
    subst e'
    exact PySem.W.truthy_bytes (by omega) ⟨H,I.tok _,q⟩
  | ref p =>
    cases rx
    have e':(∃ xs,SqL X.K H p xs∧k = !xs.isEmpty)∨(∃ xs,SqT X.K H p xs∧k = !xs.isEmpty)∨∃ kvs,H p=some (.dK kvs)∧k = !kvs.isEmpty:=e
    rcases e' with ⟨xs,hx,e'⟩ | ⟨xs,hx,e'⟩ | ⟨kvs,hx,e'⟩
    · subst e'
      obtain ⟨its,r,pl,hz⟩:=I.list hx
      have hlen:=r.length
      exact wpAny_truthy_list pl.isList (by simp only [List.size_toArray];omega) ⟨H,I.tok _,by rw [isEmpty_of r];exact q⟩
    · subst e'
      obtain ⟨its,r,pl,hz⟩:=I.tuple hx
      have hlen:=r.length
      exact truthy_tuple pl (by simp only [List.size_toArray];omega) ⟨H,I.tok _,by rw [isEmpty_of r];exact q⟩
    · subst e'
      obtain ⟨hz,hS,vs,r,m⟩:kvs.length≤sizeLine∧(p == sysModules)=false∧∃ vs,KV kvs vs∧s.heap.DictOf (mixKind X.prog X.w) p vs:=I.hok p _ hx
      have hlen:kvs.length=vs.length:=Paired.length r
      exact wpAny_truthy_dict hS m (by omega) ⟨H,I.tok _,by rw [isEmpty_kv r];exact q⟩
  | _=>exact (show False from e).elim
theorem pt_truth (ha:PE X a ta) (he:∀ whole,isTrue a X.env whole=(do let v ← whole;standAt a.pos;holding [v] (truthy v))) :
    PT X a (fun σ H Q=>ta σ H fun x H'=>∃ k,TruV X.K x H' k∧Q k H'):=by
  intro pins s σ H Q I h
  exact isTrue_plain (thn (ha pins s σ H _ I h) fun v s1 ⟨x,H1,I1,r1,q1⟩=>tru_ok pins s1 σ H1 x v Q I1 r1 q1) (he _)
theorem vals1 {x:V} {us:List Value} (r:Vals [x] us):∃ u,us=[u]∧RelV x u:=by
  cases r with
  | cons r1 r2=>cases r2;exact ⟨_,rfl,r1⟩
theorem vals2 {x y:V} {us:List Value} (r:Vals [x,y] us):∃ u w',us=[u,w']∧RelV x u∧RelV y w':=by
  cases r with
  | cons r1 r2 =>
    cases r2 with
    | cons r3 r4=>cases r4;exact ⟨_,_,rfl,r1,r3⟩
theorem call_int1:CallR X (.type "int") (fun xs H Q=>(∃ i,xs=[.int i]∧Q (.int i) H)∨∃ k,xs=[.bl k]∧Q (.int (if k then 1 else 0)) H):=by
  intro pins s σ H xs us Q I r h
  rcases h with ⟨i,rfl,q⟩ | ⟨k,rfl,q⟩
  · obtain ⟨u,rfl,t,rfl⟩:=vals1 r
    exact call_int_int ⟨.int i,H,I,⟨_,rfl⟩,q⟩
  · obtain ⟨u,rfl,r1⟩:=vals1 r
    cases r1
    exact call_int_bool ⟨.int (if k then 1 else 0),H,I.tok _,⟨_,rfl⟩,q⟩
end
end L2
namespace L2
open PySem PySem.Spec PyProof.Rows
structure ObjM (h:Heap) (x dx C:Addr) (mA:Str→Option Value):Prop where
  obj:h.get? x=some (PySem.W.instObj C dx)
  ns:h.Ns1 dx mA
  ne:dx≠x
theorem lookIn_ns {h:Heap} {dx:Addr} {mA:Str→Option Value} (n:h.Ns1 dx mA):∃ od,h.get? dx=some od∧∀ name,PySem.W.lookIn name od=some (mA name):=by
  obtain ⟨o,es,ep,ho,hd,hk,_,hm⟩:=n
  refine ⟨o,ho,fun name=>?_⟩
  have e:=hm name
  unfold nsFind findBy at e
  rw [← Array.find?_toList] at e
  unfold PySem.W.lookIn
  rw [hd]
  dsimp only
  split
  · rename_i y q
    rw [q] at e
    exact congrArg some e
  · rename_i q
    rw [q] at e
    have a:es.toList.any (·.refKey)=false:=by
      rw [List.any_eq_false]
      intro y hy
      obtain ⟨z,t,hkey⟩:=hk y (Array.mem_toList_iff.mp hy)
      simp [DictEntry.refKey,hkey]
    have a':¬ es.toList.any (·.refKey)=true:=by rw [a];exact Bool.false_ne_true
    rw [if_neg a']
    exact congrArg some e
theorem ObjM.look {h:Heap} {x dx C:Addr} {mA:Str→Option Value} (I:ObjM h x dx C mA):∃ od,PySem.W.InstAt h x (PySem.W.instObj C dx) C (some od)∧∀ name,PySem.W.lookIn name od=some (mA name) :=
  let ⟨od,ho,hl⟩:=lookIn_ns I.ns
  ⟨od,⟨I.obj,rfl,rfl,ho⟩,hl⟩
section
variable {prog:Program} {w:World} {A:Around} {E:Value→Shared→Prop} {s:Shared} {K:PySem.W.Frag} {x dx C f:Addr} {mA:Str→Option Value} {name:Str} {v:Value}
end
section
variable {P:Program} {w:World} {H H':Hp} {h h':Heap} {a C dx:Addr} {fs fs':List (Str × V)}
theorem ins_get (hok:HOk P w H h) (e:H a=some (.ins C dx fs)):∃ mA,ObjM h a dx C mA∧(∀ f,RelO (fs.lookup f) (mA f))∧PySem.Within mA (fs.map (·.1))∧fs.length≤1000∧H dx=some (.own a):=by
  obtain ⟨d,z,ne,ob,mA,n,r,q⟩:=(show ObjOk P w H h a (.ins C dx fs) from hok a _ e)
  exact ⟨mA,⟨ob,n,ne⟩,r,q,z,d⟩
end
structure Cls (K:PySem.W.Frag) (C:Addr):Prop where
  pg:PySem.W.plainGet K C Str.empty=true
  hd:PySem.W.hasDictIn K C=true
  po:PySem.W.plainOver K C=true
  sa:PySem.W.findIn K (.ref C) "__setattr__" = some (some (.builtin "object.__setattr__"))
theorem Cls.get {K:PySem.W.Frag} {C:Addr} (c:Cls K C) (f:Str):PySem.W.plainGet K C f=true:=c.pg
structure Con (K:PySem.W.Frag) (C:Addr) (f:Str) (v:V) (u:Value):Prop where
  at_:PySem.W.findIn K (.ref C) f=some (some u)
  rel:RelV v u
  get:PySem.W.specialIn K u "__get__" = some none
  cp:PySem.W.copiedNames.contains f=false
structure Meth (K:PySem.W.Frag) (C:Addr) (m:Str) (f:Addr):Prop where
  at_:PySem.W.findIn K (.ref C) m=some (some (.ref f))
  fn:PySem.W.isFn K (.ref f)=true
  kp:PySem.W.keepIn K (.ref f)=true
section
variable {X:Cx} {pins:List (Addr × Obj)} {σ:St} {H:Hp} {s:Shared} {a C dx:Addr} {fs:List (Str × V)} {f:Str} {v:V} {A:Around} {E:Value→Shared→Prop}
theorem Inv.made (I:Inv X pins σ H s):Inv X pins σ (upd (upd H s.heap.objs.size (.own (s.heap.objs.size+1))) (s.heap.objs.size+1) (.ins C s.heap.objs.size []))
    { s with heap:=(s.heap.push PySem.W.emptyDict).push (PySem.W.instObj C s.heap.objs.size) }:=by
  have e1:(s.heap.push PySem.W.emptyDict).get? s.heap.objs.size=some PySem.W.emptyDict:=Heap.get?_push_size s.heap rfl
  have e2:((s.heap.push PySem.W.emptyDict).push (PySem.W.instObj C s.heap.objs.size)).get? (s.heap.objs.size+1)=some (PySem.W.instObj C s.heap.objs.size):=by
    have:=Heap.get?_push_size (s.heap.push PySem.W.emptyDict) (o:=PySem.W.instObj C s.heap.objs.size) rfl
    rwa [Heap.size_push] at this
  have e3:(s.heap.push PySem.W.emptyDict).Ns s.heap.objs.size (fun _=>none):=⟨PySem.W.emptyDict,#[],_,e1,rfl,(fun e he=>absurd he (by simp)),fun _=>rfl⟩
  have I1:=I.laid (a:=s.heap.objs.size) (o:=.own (s.heap.objs.size+1)) (h':=s.heap.push PySem.W.emptyDict) (t':=s.toks) (fun b u q=>Heap.get?_push_of_some _ q) (Nat.le_refl _) ⟨_,e1⟩
  refine I1.laid (a:=s.heap.objs.size+1) (o:=.ins C s.heap.objs.size []) (t':=s.toks) (fun b u q=>Heap.get?_push_of_some _ q) (Nat.le_of_eq (Heap.size_push _ _)) ?_
  have ne:s.heap.objs.size≠s.heap.objs.size+1:=Nat.ne_of_lt (Nat.lt_succ_self _)
  refine ⟨by rw [upd_ne ne,upd_same],Nat.zero_le _,ne,e2,fun _=>none,(Heap.Ns1.of_empty e3).at fun o q=>Heap.get?_push_of_some _ q,fun _=>True.intro,fun y hy=>absurd rfl hy⟩
end
section
variable {X:Cx} {o e value:Expr} {f:Str} {pos pos' tpos:Pos} {ta tv:TE}
end
section
variable {X:Cx} {pins:List (Addr × Obj)} {σ:St} {H:Hp} {s:Shared} {A:Around} {E:Value→Shared→Prop} {Q:Value→Shared→Prop} {c:Value} {b:Bool}
inductive TyOf (K:PySem.W.Frag) (H:Hp):V→Value→Prop where
  | non:TyOf K H .non (.type "NoneType")
  | bl (x:Bool):TyOf K H (.bl x) (.type "bool")
  | int (i:Int):TyOf K H (.int i) (.type "int")
  | str (x:Str):TyOf K H (.str x) (.type "str")
  | flt (x:UInt64):TyOf K H (.flt x) (.type "float")
  | lst {a:Addr} {xs:List V} (e:H a=some (.lst xs)):TyOf K H (.ref a) (.type "list")
  | frz {a:Addr} {o:Obj} {xs:List V} (e:H a=some (.frz o (.lst xs))):TyOf K H (.ref a) (.type "list")
  | tup {a:Addr} {xs:List V} (e:H a=some (.tup xs)):TyOf K H (.ref a) (.type "tuple")
  | dK {a:Addr} {kvs:List (Key × V)} (e:H a=some (.dK kvs)):TyOf K H (.ref a) (.type "dict")
  | dT {a:Addr} {kvs:List (List Key × V)} (e:H a=some (.dT kvs)):TyOf K H (.ref a) (.type "dict")
  | ins {a C dx:Addr} {fs:List (Str × V)} (e:H a=some (.ins C dx fs)) (cl:Cls K C) (ha:PySem.W.findIn K (.ref C) "__class__" = some (some (.builtin "object.__class__")))
      (hn:PySem.W.specialIn K (.builtin "object.__class__") "__get__" = some (some (.builtin "getset_descriptor.__get__"))) (htk:PySem.W.takesIn K (.builtin "object.__class__")=some true)
      (hm:PySem.W.mroIn K C (.type "object")=some true):TyOf K H (.ref a) (.ref C)
theorem isinst_ok {x:V} {u t:Value} (I:Inv X pins σ H s) (rx:RelV x u) (ty:TyOf X.K H x t) (e:PySem.W.kitOne X.K t c=some b) (h:∀ tk,Q (.bool b) { s with toks:=tk }) :
    wpAny (model X.prog X.w) A (call (.builtin "isinstance") [u,c]) Q E s:=by
  cases ty with
  | non=>cases (show u=Value.none from rx);exact PySem.W.kia_one PySem.W.kitx_none I.kIn True.intro e (fun z=>nomatch z) h
  | bl y=>cases (show u=Value.bool y from rx);exact PySem.W.kia_one PySem.W.kitx_bool I.kIn True.intro e (fun z=>nomatch z) h
  | int i=>obtain ⟨t,q⟩:=(show ∃ t,u=Value.int i t from rx);cases q;exact PySem.W.kia_one PySem.W.kitx_int I.kIn True.intro e (fun z=>nomatch z) h
  | str y=>obtain ⟨t,q⟩:=(show ∃ t,u=Value.str y t from rx);cases q;exact PySem.W.kia_one PySem.W.kitx_str I.kIn True.intro e (fun z=>nomatch z) h
  | flt y=>obtain ⟨t,q⟩:=(show ∃ t,u=Value.float y t from rx);cases q;exact PySem.W.kia_one PySem.W.kitx_float I.kIn True.intro e (fun z=>nomatch z) h
  | @lst a xs ea =>
    cases (show u=Value.ref a from rx)
    obtain ⟨_,_,n,_,h1⟩:=(show ObjOk X.prog X.w H s.heap a (.lst xs) from I.hok a _ ea)
    exact PySem.W.kia_one PySem.W.kitx_list I.kIn ⟨_,h1,rfl⟩ e (fun z=>nomatch z) h
  | @frz a ob xs ea =>
    cases (show u=Value.ref a from rx)
    obtain ⟨_,_,_,n,_,h1⟩:=(show ObjOk X.prog X.w H s.heap a (.frz ob (.lst xs)) from I.hok a _ ea)
    exact PySem.W.kia_one PySem.W.kitx_list I.kIn ⟨_,h1,rfl⟩ e (fun z=>nomatch z) h
  | @tup a xs ea =>
    cases (show u=Value.ref a from rx)
    obtain ⟨_,_,_,p,_⟩:=(show ObjOk X.prog X.w H s.heap a (.tup xs) from I.hok a _ ea)
    obtain ⟨o,h1,h2,_⟩:=p
    exact PySem.W.kia_one PySem.W.kitx_tuple I.kIn ⟨o,h1,h2⟩ e (fun z=>nomatch z) h
  | @dK a kvs ea =>
    cases (show u=Value.ref a from rx)
    obtain ⟨_,_,vs,_,p⟩:=(show ObjOk X.prog X.w H s.heap a (.dK kvs) from I.hok a _ ea)
    obtain ⟨o,es,ep,h1,h2,_⟩:=p
    exact PySem.W.kia_one PySem.W.kitx_dict I.kIn ⟨o,h1,h2.1⟩ e (fun z=>nomatch z) h
  | @dT a kvs ea =>
    cases (show u=Value.ref a from rx)
    obtain ⟨_,_,xs,_,o,es,ep,h1,h2,_⟩:=(show ObjOk X.prog X.w H s.heap a (.dT kvs) from I.hok a _ ea)
    exact PySem.W.kia_one PySem.W.kitx_dict I.kIn ⟨o,h1,h2.1⟩ e (fun z=>nomatch z) h
  | @ins a C dx fs ea cl ha hn htk hm =>
    cases (show u=Value.ref a from rx)
    obtain ⟨mA,O,_⟩:=ins_get I.hok ea
    obtain ⟨od,J,_⟩:=O.look
    exact PySem.W.kia_one (PySem.W.kitx_own (cl.get _) cl.hd ha hn htk hm) I.kIn J e (fun z=>nomatch z) h
end
end L2
namespace L2
open PySem PySem.Spec PyProof.Rows
structure Room (k:Nat) (A:Around):Prop where
  hd:A.handled=none
  dp:A.depth+3 * k+5 < recursionLimit
  un:A.units+16 * k+200 < cLine
theorem Room.mono {j k:Nat} {A:Around} (r:Room k A) (h:j≤k):Room j A:=⟨r.hd,by have:=r.dp;omega,by have:=r.un;omega⟩
theorem Room.deeper {k:Nat} {A:Around} (r:Room (k+1) A) (env:Env):Room k (A.deeper env) :=
  ⟨r.hd,by have:=r.dp;show A.depth+1+3 * k+5 < _;omega,by have:=r.un;show A.units+3+16 * k+200 < _;omega⟩
theorem Room.in1 {k:Nat} {A:Around} (r:Room (k+1) A):Room k A.in1 :=
  ⟨r.hd,by have:=r.dp;show A.depth+3 * k+5 < _;omega,by have:=r.un;show A.units+1+16 * k+200 < _;omega⟩
theorem Room.depth {k:Nat} {A:Around} (r:Room k A):A.depth < recursionLimit:=by have:=r.dp;omega
theorem Room.units {k:Nat} {A:Around} (r:Room k A):A.units+64 < cLine:=by have:=r.un;omega
def tNil:TA:=fun _ H Q=>Q [] H
def tCons (ta:TE) (tr:TA):TA:=fun σ H Q=>ta σ H fun x H1=>tr σ H1 fun xs H2=>Q (x :: xs) H2
section
variable {X:Cx} {e:Expr} {es:List Expr} {te:TE} {t:TA} {pos:Pos}
theorem pa_nil:PA X [] tNil:=fun _ _ _ _ H Q I h=>Calls.spliced_nil ⟨[],H,I,.nil,h⟩
theorem pa_cons (ha:PE X e te) (hr:PA X es t) (hs:starEach (e :: es) X.env=(false,eval e X.env) :: starEach es X.env:=by rfl):PA X (e :: es) (tCons te t):=by
  intro pos pins s σ H Q I h
  rw [hs]
  show wpAny _ _ (spliced ((false,eval e X.env) :: backTo pos (starEach es X.env))) _ _ s
  refine Calls.spliced_cons (thn (ha pins s σ H _ I h) fun u s1 ⟨x,H1,I1,r1,q1⟩=>?_)
  exact thn (hr pos pins s1 σ H1 _ I1 q1) fun us s2 ⟨xs,H2,I2,r2,q2⟩=>⟨x :: xs,H2,I2,.cons r1 r2,q2⟩
def tTup (t:TA):TE:=fun σ H Q=>t σ H fun xs H1=>xs.length≤sizeLine∧∀ p,H1 p=none→Q (.ref p) (upd H1 p (.tup xs))
def tLst (t:TA):TE:=fun σ H Q=>t σ H fun xs H1=>xs.length≤sizeLine∧∀ p,H1 p=none→Q (.ref p) (upd H1 p (.lst xs))
theorem pe_tup {x1} (h:PA X es t):PE X (.Tuple es x1 pos) (tTup t):=by
  intro pins s σ H Q I hq
  refine wpAny_Tuple_spliced (thn (h pos pins s σ H _ I hq) fun us s1 ⟨xs,H1,I1,r,z,q⟩=>⟨by rw [← r.length];exact z,?_⟩)
  have hf:H1 s1.heap.objs.size=none:=I1.hok.fresh (Nat.le_refl _)
  refine ⟨.ref s1.heap.objs.size,upd H1 s1.heap.objs.size (.tup xs),I1.laid (t':=s1.toks) (fun b u e=>Heap.get?_push_of_some _ e) (Nat.le_refl _) ?_,rfl,q _ hf⟩
  exact ⟨z,us,r,⟨_,Heap.get?_push_size _ rfl,rfl,_,rfl⟩,_,Heap.get?_push_size _ rfl,rfl⟩
theorem pe_lst (h:PA X es t):PE X (.List es pos) (tLst t):=by
  intro pins s σ H Q I hq
  refine wpAny_List_spliced (thn (h pos pins s σ H _ I hq) fun us s1 ⟨xs,H1,I1,r,z,q⟩=>⟨by rw [← r.length];exact z,?_⟩)
  have hf:H1 s1.heap.objs.size=none:=I1.hok.fresh (Nat.le_refl _)
  refine ⟨.ref s1.heap.objs.size,upd H1 s1.heap.objs.size (.lst xs),I1.laid (t':=s1.toks) (fun b u e=>Heap.get?_push_of_some _ e) (Nat.le_refl _) ?_,rfl,q _ hf⟩
  exact ⟨z,us,0,r,Heap.get?_push_size _ rfl⟩
end
abbrev Sp:=List V→Hp→VK→XK→Prop
abbrev CXT:=List Env→Hp→Shared→XK→Value→Shared→Prop
structure Env0 (P:Program) (w:World) (K:PySem.W.Frag) (mg:Str→Option Value) (base:Heap) (A:Around) (outer:List Env) (s:Shared) (H:Hp):Prop where
  frames:A.frames=some outer
  mod:Mod K mg base
  bs:∀ b o,base.get? b=some o→s.heap.get? b=some o∧H b=none
  bsz:base.objs.size≤s.heap.objs.size
  funs:s.heap.FunFrames base outer
  frf:∀ b∈frs outer,H b=none
  hok:HOk P w H s.heap
  bare:AllBare s.gens
def CE (outer:List Env) (P:Program) (w:World) (H:Hp) (s:Shared) (Q:VK) (u:Value) (s':Shared):Prop :=
  ∃ v H',s'.os=s.os∧AllBare s'.gens∧Un (frs outer) [] H H' s.heap s'.heap∧HOk P w H' s'.heap∧RelV v u∧Q v H'
def CR (CX:CXT) (outer:List Env) (P:Program) (w:World) (H:Hp) (s:Shared) (Q:VK) (E:XK) (r:Result) (s':Shared):Prop :=
  match r with
  | .ok (.ret u)=>CE outer P w H s Q u s'
  | .ok _=>False
  | .error e=>CX outer H s E e s'
structure FnOk (P:Program) (w:World) (K:PySem.W.Frag) (mg:Str→Option Value) (base:Heap) (CX:CXT) (k:Nat) (f:Addr) (fd:FuncData) (ps:List Str) (sp:Sp):Prop where
  len:∀ vs H Q E,sp vs H Q E→vs.length=ps.length
  run:∀ (A:Around) (outer:List Env) (s:Shared) (H:Hp) (args:Args) (us:List Value) (vs:List V) (Q:VK) (E:XK),Room k A→Env0 P w K mg base A outer s H→BindsTo s fd args (ps.zip us)→Vals vs us→sp vs H Q E →
    codeAny (model P w) A (.call (.ref f) args) (CR CX outer P w H s Q E) s
theorem FnOk.mono {P:Program} {w:World} {K:PySem.W.Frag} {mg:Str→Option Value} {base:Heap} {CX:CXT} {j k:Nat} {f:Addr} {fd:FuncData} {ps:List Str} {sp:Sp} (F:FnOk P w K mg base CX j f fd ps sp) (h:j≤k) :
    FnOk P w K mg base CX k f fd ps sp:=⟨F.len,fun A outer s H args us vs Q E hr=>F.run A outer s H args us vs Q E (hr.mono h)⟩
theorem FnOk.imp {P:Program} {w:World} {K:PySem.W.Frag} {mg:Str→Option Value} {base:Heap} {CX:CXT} {k:Nat} {f:Addr} {fd:FuncData} {ps:List Str} {sp sp':Sp} (F:FnOk P w K mg base CX k f fd ps sp)
    (h:∀ vs H Q E,sp' vs H Q E→sp vs H Q E):FnOk P w K mg base CX k f fd ps sp' :=
  ⟨fun vs H Q E q=>F.len vs H Q E (h _ _ _ _ q),fun A outer s H args us vs Q E hr he hb hv hs=>F.run A outer s H args us vs Q E hr he hb hv (h _ _ _ _ hs)⟩
theorem Env0.in1 {P:Program} {w:World} {K:PySem.W.Frag} {mg:Str→Option Value} {base:Heap} {A:Around} {outer:List Env} {s:Shared} {H:Hp} (e:Env0 P w K mg base A outer s H) :
    Env0 P w K mg base A.in1 outer s H:=⟨e.frames,e.mod,e.bs,e.bsz,e.funs,e.frf,e.hok,e.bare⟩
section
variable {X:Cx} {pins:List (Addr × Obj)} {σ:St} {H:Hp} {s s':Shared}
theorem Inv.env0 (I:Inv X pins σ H s):Env0 X.prog X.w X.K X.mg X.base X.A X.stack s H :=
  ⟨I.ok.frames,I.ok.mod,I.bs,Nat.le_trans I.ok.bsz I.sz,I.stack,I.stkFree,I.hok,I.bare⟩
theorem Inv.after {Q:VK} {u:Value} (I:Inv X pins σ H s) (h:CE X.stack X.prog X.w H s Q u s'):EP X pins σ Q u s':=by
  obtain ⟨v,H',os,bare,un,hok,r,q⟩:=h
  obtain ⟨hh,g,d,t,os'⟩:=s'
  obtain rfl:os'=s.os:=os
  exact ⟨v,H',I.call (h':=hh) (g':=g) (d':=d) (t':=t) (ch:=[]) un hok bare (fun b z=>absurd z (by simp)),r,q⟩
end
def tCall (sp:Sp) (dvs:List V) (E:XK) (t:TA):TE:=fun σ H Q=>t σ H fun vs H1=>sp (vs++dvs) H1 Q E
def Binds (K:PySem.W.Frag) (fd:FuncData) (ps:List Str) (ds:List Value):Prop :=
  ∀ (s:Shared) (us:List Value),K.In s.heap→(us++ds).length=ps.length→BindsTo s fd ⟨us,[]⟩ (ps.zip (us++ds))
theorem Binds.all {K:PySem.W.Frag} {fd:FuncData} {ps:List Str} (h:∀ us:List Value,us.length=ps.length→bindArgs fd ⟨us,[]⟩=pure (ps.zip us)):Binds K fd ps []:=fun s us _ hl=>by
  rw [List.append_nil] at hl ⊢
  exact .of_eq (h us hl)
def Passes (CX:CXT) (X:Cx) (E:XK):Prop:=∀ (pins:List (Addr × Obj)) (σ:St) (H:Hp) (s:Shared) (e:Value) (s':Shared),Inv X pins σ H s→CX X.stack H s E e s'→X.xe e s'
section
variable {X:Cx} {CX:CXT} {k:Nat} {f C:Addr} {fd:FuncData} {ps:List Str} {sp:Sp} {dvs:List V} {ds:List Value} {E:XK} {x m:Str} {p pos apos:Pos} {e o:Expr} {es:List Expr} {ta:TE} {t:TA}
theorem run_fn {pins:List (Addr × Obj)} {σ:St} {H:Hp} {s:Shared} {Q:VK} {us:List Value} {vs:List V} (F:FnOk X.prog X.w X.K X.mg X.base CX k f fd ps sp) (hr:Room k X.A) (hb:Binds X.K fd ps ds) (hd:Vals dvs ds) (hx:Passes CX X E)
    (I:Inv X pins σ H s) (r:Vals vs us) (h:sp (vs++dvs) H Q E):wpAny (model X.prog X.w) X.A (call (.ref f) us) (EP X pins σ Q) X.xe s:=by
  have r2:Vals (vs++dvs) (us++ds):=r.append hd
  have hl:(us++ds).length=ps.length:=by rw [← r2.length];exact F.len _ _ _ _ h
  refine wpAny_call (codeAny_mono (F.run X.A X.stack s H ⟨us,[]⟩ (us++ds) (vs++dvs) Q E hr I.env0 (hb s us I.kIn hl) r2 h) fun r s' hq=>?_)
  cases r with
  | error e=>exact hx pins σ H s e s' I hq
  | ok fl =>
    cases fl with
    | ret u=>exact I.after hq
    | next=>exact False.elim hq
    | brk=>exact False.elim hq
    | cont=>exact False.elim hq
theorem pe_call (F:FnOk X.prog X.w X.K X.mg X.base CX k f fd ps sp) (hr:Room k X.A) (hg:Gl X x) (hm:X.mg x=some (.ref f)) (hk:PySem.W.keepIn X.K (.ref f)=true) (hb:Binds X.K fd ps ds) (hd:Vals dvs ds) (hx:Passes CX X E)
    (ha:PA X (e :: es) t) (hdb:(x == ("__debug__" : Str))=false:=by decide) (he:starEach (e :: es) X.env=(false,eval e X.env) :: starEach es X.env:=by rfl) (hpl:(backTo pos (starEach es X.env)).any (·.1)=false:=by rfl) :
    PE X (.Call (.Name x p) (e :: es) [] pos) (tCall sp dvs E t):=by
  intro pins s σ H Q I h
  refine wpAny_Call_Name_kw (ld_glob I hg hm ?_ hdb)
  refine PySem.W.callWith_K (h₀:=X.base) I.ok.mod.kin hk (thn (ha pos pins s σ H _ I h) fun us s1 ⟨vs,H1,I1,r,q⟩=>⟨I1.kIn,?_⟩) he hpl
  exact run_fn F hr hb hd hx I1 r q
structure Mk (K:PySem.W.Frag) (C f:Addr):Prop where
  makes:PySem.W.makesIn K C=true
  init:PySem.W.findIn K (.ref C) "__init__" = some (some (.ref f))
  fn:PySem.W.isFn K (.ref f)=true
  kp:PySem.W.keepIn K (.ref C)=true
end
section
variable {X:Cx} {CX:CXT} {k:Nat} {f C:Addr} {fd:FuncData} {ps ks:List Str} {sp:Sp} {E:XK} {x m:Str} {p pos apos kpos:Pos} {e o:Expr} {es:List Expr} {kws:List Keyword} {te ta:TE} {t tk:TA} {nm:Option Str}
structure KBinds (K:PySem.W.Frag) (fd:FuncData) (ps ks:List Str) (g:List Value→List Value→List Value) (gV:List V→List V→List V):Prop where
  to:∀ (s:Shared) (us ws:List Value),K.In s.heap→(g us ws).length=ps.length→BindsTo s fd ⟨us,ks.zip ws⟩ (ps.zip (g us ws))
  rel:∀ {vs:List V} {us:List Value} {zs:List V} {ws:List Value},Vals vs us→Vals zs ws→Vals (gV vs zs) (g us ws)
variable {g:List Value→List Value→List Value} {gV:List V→List V→List V}
end
structure FnScope (N P:List Str) (sc:Scope):Prop where
  kind:sc.kind=.function
  co:sc.isCoroutine=false
  gen:sc.isGenerator=false
  nd:N.Nodup
  pre:N.take P.length=P
  par:∀ x∈P,sc.names.lookup x=some .local∨sc.names.lookup x=some .cell
  nofree:∀ y∈sc.names,y.2≠.free
theorem bindL_out {kindOf:Str→Option NameKind} {x:Str}:∀ {binds:List (Str × Value)} {m:Str→Option Value},(∀ v,(x,v) ∉ binds)→bindL kindOf binds m x=m x
  | [],_,_=>rfl
  | (n,v) :: r,m,h=>by
    unfold bindL
    rw [bindL_out fun w hw=>h w (List.mem_cons_of_mem _ hw)]
    split
    · have:x≠n:=by rintro rfl;exact h v List.mem_cons_self
      simp [this]
    · rfl
theorem bindC_out {kindOf:Str→Option NameKind} {x:Str}:∀ {binds:List (Str × Value)} {m:Str→Option Value},(∀ v,(x,v) ∉ binds)→bindC kindOf binds m x=m x
  | [],_,_=>rfl
  | (n,v) :: r,m,h=>by
    unfold bindC
    rw [bindC_out fun w hw=>h w (List.mem_cons_of_mem _ hw)]
    split
    · rfl
    · have:x≠n:=by rintro rfl;exact h v List.mem_cons_self
      simp [this]
theorem bindL_get {kindOf:Str→Option NameKind} {x:Str} {v:Value}:∀ {P:List Str} {vs:List Value} {i:Nat} {m:Str→Option Value},P.Nodup→P[i]? = some x→vs[i]? = some v→kindOf x=some .local →
    bindL kindOf (P.zip vs) m x=some v
  | [],_,_,_,_,h,_,_=>by simp at h
  | _ :: _,[],_,_,_,_,h,_=>by simp at h
  | p :: P,w :: vs,0,m,nd,h1,h2,hk=>by
    simp at h1 h2;subst h1;subst h2
    show bindL kindOf ((p,w) :: P.zip vs) m p=_
    unfold bindL
    rw [bindL_out fun v hv=>(List.nodup_cons.mp nd).1 (List.of_mem_zip hv).1,if_pos hk]
    simp
  | p :: P,w :: vs,i+1,m,nd,h1,h2,hk=>by
    show bindL kindOf ((p,w) :: P.zip vs) m x=_
    unfold bindL
    exact bindL_get (i:=i) (List.nodup_cons.mp nd).2 (by simpa using h1) (by simpa using h2) hk
theorem bindC_get {kindOf:Str→Option NameKind} {x:Str} {v:Value}:∀ {P:List Str} {vs:List Value} {i:Nat} {m:Str→Option Value},P.Nodup→P[i]? = some x→vs[i]? = some v→kindOf x≠some .local →
    bindC kindOf (P.zip vs) m x=some v
  | [],_,_,_,_,h,_,_=>by simp at h
  | _ :: _,[],_,_,_,_,h,_=>by simp at h
  | p :: P,w :: vs,0,m,nd,h1,h2,hk=>by
    simp at h1 h2;subst h1;subst h2
    show bindC kindOf ((p,w) :: P.zip vs) m p=_
    unfold bindC
    rw [bindC_out fun v hv=>(List.nodup_cons.mp nd).1 (List.of_mem_zip hv).1,if_neg hk]
    simp
  | p :: P,w :: vs,i+1,m,nd,h1,h2,hk=>by
    show bindC kindOf ((p,w) :: P.zip vs) m x=_
    unfold bindC
    exact bindC_get (i:=i) (List.nodup_cons.mp nd).2 (by simpa using h1) (by simpa using h2) hk
def start (N:List Str) (vs:List V):St:=vs.map some++List.replicate (N.length - vs.length) none
def cxOf (CX:CXT) (P:Program) (w:World) (K:PySem.W.Frag) (mg:Str→Option Value) (base:Heap) (N:List Str) (qual:Str) (scope:Scope) (f:Addr) (cd:Value) (A:Around) (outer:List Env) (s:Shared) (H:Hp) (E:XK):Cx where
  prog:=P
  w:=w
  K:=K
  mg:=mg
  base:=base
  A:=A.deeper (envOfC qual scope s.heap.objs.size f cd)
  N:=N
  s₀:=s
  H₀:=H
  env:=envOfC qual scope s.heap.objs.size f cd
  outer:=outer
  stack:=envOfC qual scope s.heap.objs.size f cd :: outer
  ex:=[]
  calm:=true
  fn:=fun _=>true
  pn:=[]
  xe:=fun e s'=>wpAny (model P w) (A.deeper (envOfC qual scope s.heap.objs.size f cd)) (leaving (envOfC qual scope s.heap.objs.size f cd) e) (fun _ s''=>CX outer H s E e s'') (fun e' s''=>CX outer H s E e' s'') s'
theorem cell_has {sc:Scope} {n:Nat} {x:Str} (h:sc.names.lookup x=some .cell):∃ c,(cellsFrom n sc.names []).lookup x=some c:=by
  have q:=PySem.W.cellsFrom_some sc.names n [] (.inl h)
  exact Option.isSome_iff_exists.mp q
theorem inv_start {CX:CXT} {P:Program} {w:World} {K:PySem.W.Frag} {mg:Str→Option Value} {base:Heap} {N ps:List Str} {qual:Str} {scope:Scope} {f:Addr} {cd:Value} {A:Around} {outer:List Env} {s s1:Shared} {H:Hp} {E:XK} {us:List Value} {vs:List V}
    (S:FnScope N ps scope) (hd:A.handled=none) (e0:Env0 P w K mg base A outer s H) (hl:vs.length=ps.length) (r:Vals vs us)
    (x:InCallC s s.heap.objs.size (bindL (envOfC qual scope s.heap.objs.size f cd).kindOf (ps.zip us) fun _=>none) (cellsFrom (s.heap.objs.size+1) scope.names []) (bindC (envOfC qual scope s.heap.objs.size f cd).kindOf (ps.zip us) fun _=>none) s1) :
    Inv (cxOf CX P w K mg base N qual scope f cd A outer s H E) [] (start N vs) H s1:=by
  have hpl:ps.length≤N.length:=by have:=congrArg List.length S.pre;rw [List.length_take] at this;omega
  obtain ⟨h1,tk,rfl,hk⟩:=x.done
  have noA:∀ b:Addr,b ∉ (cxOf CX P w K mg base N qual scope f cd A outer s H E).ex:=fun b z=>absurd (show b∈([]:List Addr) from z) (by simp)
  refine ⟨⟨e0.mod,S.kind,rfl,rfl,Nat.le_refl _,fun y z c h1 h2=>?_,fun y hy=>?_,fun y c _ h=>?_,fun _=>hd,Around.frames_deeper e0.frames,.inr ⟨rfl,rfl⟩,fun b z=>absurd z (noA b),e0.bs,e0.bsz,fun b _ _=>noA b,fun b z=>absurd z (noA b),e0.funs,e0.frf⟩,
    rfl,e0.bare,Un.kept hk,⟨_,x.toInCall.ns,fun i y v h1 h2 h3=>?_⟩,fun y c h=>⟨_,x.cell y c h⟩,e0.hok.fresh (Nat.le_refl _),fun y c h=>?_,fun p hp=>absurd (show p∈([]:List (Addr × Obj)) from hp) (by simp),e0.hok.kept hk,?_⟩
  · exact name_of_addr x.apart (PySem.mem_of_lookup h1) (PySem.mem_of_lookup h2)
  · have hy:scope.names.lookup y=some .cell∨scope.names.lookup y=some .free:=hy
    rcases hy with hy | hy
    · exact cell_has hy
    · exact absurd rfl (S.nofree _ (PySem.mem_of_lookup hy))
  · exact Nat.le_of_lt (x.above y c (PySem.mem_of_lookup h))
  · have hi:i < vs.length:=by
      unfold start at h2
      by_cases hi:i < vs.length
      · exact hi
      · rw [List.getElem?_append_right (by simpa using hi)] at h2
        rw [List.getElem?_replicate] at h2
        split at h2 <;> cases h2
    have ha:vs[i]? = some v:=by
      unfold start at h2
      rw [List.getElem?_append_left (by simpa using hi),List.getElem?_map] at h2
      cases e:vs[i]? with
      | none=>rw [e] at h2;cases h2
      | some a=>rw [e] at h2;cases h2;rfl
    obtain ⟨u,hu,rv⟩:=r.get ha
    have hp:ps[i]? = some y:=by
      rw [← S.pre,List.getElem?_take_of_lt (by omega)];exact h1
    have ndP:ps.Nodup:=by rw [← S.pre];exact S.nd.sublist (List.take_sublist _ _)
    refine ⟨u,rv,?_⟩
    rcases S.par y (List.mem_of_getElem? hp) with k | k
    · exact .inl ⟨k,bindL_get ndP hp hu k⟩
    · obtain ⟨c,e⟩:=cell_has (n:=s.heap.objs.size+1) k
      refine .inr ⟨.inl k,c,e,?_⟩
      have q:=x.cell y c e
      rw [bindC_get ndP hp hu (by show scope.names.lookup y≠_;rw [k];decide)] at q
      exact q
  · exact e0.hok.fresh (Nat.le_of_lt (x.above y c (PySem.mem_of_lookup h)))
  · unfold start
    show _=N.length
    rw [List.length_append,List.length_map,List.length_replicate]
    omega
theorem fn_of {CX:CXT} {P:Program} {w:World} {K:PySem.W.Frag} {mg:Str→Option Value} {base:Heap} {k:Nat} {f:Addr} {name qual:Str} {params:Arguments} {body:List Stmt} {scope:Scope} {dV kV doc pm cdv ct oc:Value} {an od:Option Addr}
    {osl:Array (Option Value)} {N ps:List Str} {sp:Sp} (lk:K.lookup f=some ⟨oc,od,.func (PySem.W.fnOf name qual params body scope dV kV doc pm an cdv ct),osl⟩) (hcd:PySem.W.codeIn K cdv qual=true) (S:FnScope N ps scope)
    (len:∀ vs H Q E,sp vs H Q E→vs.length=ps.length)
    (hbody:∀ (A:Around) (outer:List Env) (s:Shared) (H:Hp) (vs:List V) (Q:VK) (E:XK),Room k (A.deeper (envOfC qual scope s.heap.objs.size f cdv))→sp vs H Q E →
      ∃ t,PSs (cxOf CX P w K mg base N qual scope f cdv A outer s H E) body t∧t { nx:=fun _ H'=>Q .non H',rt:=Q } (start N vs) H) :
    FnOk P w K mg base CX (k+1) f (PySem.W.fnOf name qual params body scope dV kV doc pm an cdv ct) ps sp:=by
  refine ⟨len,fun A outer s H args us vs Q E hr e0 hb r hsp=>?_⟩
  have hl:=len _ _ _ _ hsp
  have KX:K.In s.heap:=e0.mod.kin.keeps fun b o e=>(e0.bs b o e).1
  have lim:s.heap.NoLimit:=e0.mod.nolimit.keeps fun b o e=>(e0.bs b o e).1
  have hkind:∀ y∈ps.zip us,scope.names.lookup y.1=some .local∨(scope.names.lookup y.1=some .cell∧((cellsFrom (s.heap.objs.size+1) scope.names []).lookup y.1).isSome=true):=fun ⟨n,v⟩ hy=>by
    rcases S.par n (List.of_mem_zip hy).1 with q | q
    · exact .inl q
    · exact .inr ⟨q,PySem.W.cellsFrom_some _ _ _ (.inl q)⟩
  refine codeAny_call_function hr.depth (KX _ _ lk) rfl S.co S.gen rfl (PySem.W.codeRec_of KX hcd) (hb _ _ _ _ ?_)
  refine wpAny_newFunctionEnv_cells S.kind hkind fun env he s1 x=>?_
  subst he
  refine ⟨lim.keeps x.toInCall.keep,codeAny_func ?_⟩
  obtain ⟨t,ht,hq⟩:=hbody A outer s H vs Q E (hr.deeper _) hsp
  have I:Inv (cxOf CX P w K mg base N qual scope f cdv A outer s H E) [] (start N vs) H s1:=inv_start S hr.hd e0 hl r x
  refine wpAny_mono (ht [] s1 (start N vs) H _ I hq) (fun fl s' hs=>?_) fun e s' hs=>hs
  have fin:∀ {σ':St} {H':Hp} {v:V} {u:Value},Inv (cxOf CX P w K mg base N qual scope f cdv A outer s H E) [] σ' H' s'→RelV v u→Q v H'→CE outer P w H s Q u s' :=
    fun {σ' H' v u} J rv q=>⟨v,H',J.os,J.bare,J.base,J.hok,rv,q⟩
  cases fl with
  | ret u =>
    obtain ⟨v,σ',H',J,rv,q⟩:=hs
    exact fin J rv q
  | next =>
    obtain ⟨σ',H',J,q⟩:=hs
    exact fin (v:=V.non) (u:=Value.none) J rfl q
  | brk =>
    obtain ⟨_,_,_,q⟩:=hs
    exact False.elim q
  | cont =>
    obtain ⟨_,_,_,q⟩:=hs
    exact False.elim q
end L2
namespace L2
open PySem PySem.Spec PyProof.Rows
section
variable {X:Cx} {x:Str} {p pos:Pos} {e:Expr} {es:List Expr} {t:TA} {id T:String} {r:List V→Hp→VK→Prop}
def tCB (r:List V→Hp→VK→Prop) (t:TA):TE:=fun σ H Q=>t σ H fun vs H1=>r vs H1 Q
theorem pe_callB (hc:CallR X (.builtin id) r) (hg:Gl X x) (hm:X.mg x=none) (hv:bootBuiltins x=some (.builtin id)) (ha:PA X (e :: es) t) (hn:x≠"__name__":=by decide) (hdb:(x == ("__debug__" : Str))=false:=by decide)
    (he:starEach (e :: es) X.env=(false,eval e X.env) :: starEach es X.env:=by rfl) (hpl:(backTo pos (starEach es X.env)).any (·.1)=false:=by rfl):PE X (.Call (.Name x p) (e :: es) [] pos) (tCB r t):=by
  intro pins s σ H Q I h
  refine wpAny_Call_Name_kw (ld_blt I hg hm hv ?_ hn hdb)
  exact PyProof.Rows.callWith_builtin1 (thn (ha pos pins s σ H _ I h) fun us s1 ⟨vs,H1,I1,r1,q1⟩=>hc pins s1 σ H1 vs us Q I1 r1 q1) he hpl
theorem pe_callTy (hc:CallR X (.type T) r) (hg:Gl X x) (hm:X.mg x=none) (hv:bootBuiltins x=some (.type T)) (ha:PA X (e :: es) t) (hn:x≠"__name__":=by decide) (hdb:(x == ("__debug__" : Str))=false:=by decide)
    (he:starEach (e :: es) X.env=(false,eval e X.env) :: starEach es X.env:=by rfl) (hpl:(backTo pos (starEach es X.env)).any (·.1)=false:=by rfl):PE X (.Call (.Name x p) (e :: es) [] pos) (tCB r t):=by
  intro pins s σ H Q I h
  refine wpAny_Call_Name_kw (ld_blt I hg hm hv ?_ hn hdb)
  exact PyProof.Rows.callWith_type1 (thn (ha pos pins s σ H _ I h) fun us s1 ⟨vs,H1,I1,r1,q1⟩=>hc pins s1 σ H1 vs us Q I1 r1 q1) he hpl
end
end L2
namespace HT
open PySem PyProof.Rows
section
open PySem.SeqAt
open PySem.AutoSeq1 (wpAny_loadPart')
open PySem.MeetsSeq PySem.MeetsSeq2 PySem.MeetsSeq3
end
section
variable {prog:Program} {w:World} {A:Around} {E:Value→Shared→Prop} {s:Shared}
def sIx (n d:Nat):Option Int→Nat
  | none=>d
  | some v=>if v < 0 then (v+(n:Int)).toNat else min v.toNat n
theorem sIx_none (n d:Nat):sIx n d none=d:=rfl
theorem sIx_nat (n d k:Nat):sIx n d (some (k:Int))=min k n:=by
  show (if (k:Int) < 0 then ((k:Int)+(n:Int)).toNat else min (k:Int).toNat n)=min k n
  rw [if_neg (by omega),Int.toNat_natCast]
end
end HT
namespace L2
open PySem PySem.Spec PyProof.Rows
abbrev TO:=St→Hp→(Option Int→Hp→Prop)→Prop
def PO (X:Cx) (e:Option Expr) (t:TO):Prop :=
  ∀ (pins:List (Addr × Obj)) (s:Shared) (σ:St) (H:Hp) (Q:Option Int→Hp→Prop),Inv X pins σ H s→t σ H Q →
    wpAny (model X.prog X.w) X.A (evalPart e X.env) (fun u s'=>∃ o H',Inv X pins σ H' s'∧IsPart u o∧Q o H') X.xe s
def tNoPart:TO:=fun _ H Q=>Q none H
def tPart (t:TE):TO:=fun σ H Q=>t σ H fun x H1=>∃ i,x=.int i∧Q (some i) H1
theorem intsAre_of {ns:List Int}:∀ {us:List Value},Vals (ns.map V.int) us→IntsAre us ns:=by
  induction ns with
  | nil=>intro us r;rw [List.map_nil] at r;cases r;exact .nil
  | cons n ns ih =>
    intro us r
    rw [List.map_cons] at r
    cases r with
    | cons r1 r2 =>
      obtain ⟨t,e⟩:=r1
      subst e
      exact .cons n t (ih r2)
section
variable {X:Cx} {e:Expr} {te:TE} {lo hi:Option Expr} {tl th:TO} {pos p2:Pos}
theorem po_none:PO X none tNoPart:=by
  intro pins s σ H Q I h
  rw [evalPart_none]
  exact wpAny_pure ⟨none,H,I,.none,h⟩
theorem po_some (h:PE X e te):PO X (some e) (tPart te):=by
  intro pins s σ H Q I hw
  rw [evalPart_some]
  refine thn (h pins s σ H _ I hw) fun u s1 ⟨x,H1,I1,r1,q1⟩=>?_
  obtain ⟨i,rfl,q⟩:=q1
  obtain ⟨t,rfl⟩:=r1
  exact ⟨some i,H1,I1,.int i t,q⟩
def SlR (X:Cx) (r:V→Option Int→Option Int→Hp→VK→Prop):Prop :=
  ∀ (pins:List (Addr × Obj)) (s:Shared) (σ:St) (H:Hp) (x:V) (v vl vu:Value) (lo hi:Option Int) (sl:Addr) (Q:VK),Inv X pins σ H s→RelV x v→s.heap.IsSliceOf sl vl vu .none→IsPart vl lo→IsPart vu hi→r x lo hi H Q →
    ∃ T id,typeLookup (.type T) "__getitem__" = pure (some (.builtin id))∧s.TypeIs v T∧wpAny (model X.prog X.w) X.A (getItem v (.ref sl)) (EP X pins σ Q) X.xe s
theorem SlR.or {r r':V→Option Int→Option Int→Hp→VK→Prop} (h:SlR X r) (h':SlR X r'):SlR X (fun x lo hi H Q=>r x lo hi H Q∨r' x lo hi H Q):=by
  intro pins s σ H x v vl vu lo hi sl Q I rx hs pl pu q
  rcases q with q | q
  · exact h pins s σ H x v vl vu lo hi sl Q I rx hs pl pu q
  · exact h' pins s σ H x v vl vu lo hi sl Q I rx hs pl pu q
def tSl (r:V→Option Int→Option Int→Hp→VK→Prop) (te:TE) (tl th:TO):TE:=fun σ H Q=>te σ H fun x H1=>tl σ H1 fun l H2=>th σ H2 fun u H3=>r x l u H3 Q
theorem pe_slice {r:V→Option Int→Option Int→Hp→VK→Prop} (hr:SlR X r) (he:PE X e te) (hl:PO X lo tl) (hu:PO X hi th):PE X (.Subscript e (.Slice lo hi none p2) pos) (tSl r te tl th):=by
  intro pins s σ H Q I h
  refine Subscript_ (thn (he pins s σ H _ I h) fun v s1 ⟨x,H1,I1,r1,q1⟩=>?_)
  refine wpAny_Slice (thn (hl pins s1 σ H1 _ I1 q1) fun vl s2 ⟨l,H2,I2,pl,q2⟩=>thn (hu pins s2 σ H2 _ I2 q2) fun vu s3 ⟨u,H3,I3,pu,q3⟩=>?_)
  rw [evalPart_none]
  refine wpAny_pure ?_
  have I4:Inv X pins σ H3 { s3 with heap:=s3.heap.push { cls:=.type "slice",data:=.fields #[vl,vu,.none] } }:=I3.kept (t':=s3.toks) fun b ob q=>Heap.get?_push_of_some _ q
  obtain ⟨T,id,hT,ht,hg⟩:=hr pins { s3 with heap:=s3.heap.push { cls:=.type "slice",data:=.fields #[vl,vu,.none] } } σ H3 x v vl vu l u s3.heap.objs.size Q I4 r1 (Heap.IsSliceOf.new ..) pl pu q3
  show wpAny (model X.prog X.w) X.A (subscriptTail e (.Slice lo hi none p2) v (.ref s3.heap.objs.size)) (EP X pins σ Q) X.xe { s3 with heap:=s3.heap.push { cls:=.type "slice",data:=.fields #[vl,vu,.none] } }
  exact tail_any (ops:=[.ref s3.heap.objs.size,v]) ht hT hg (by with_unfolding_all rfl)
def cutV (xs:List V) (lo hi:Option Int):List V:=(xs.drop (HT.sIx xs.length 0 lo)).take (HT.sIx xs.length xs.length hi - HT.sIx xs.length 0 lo)
theorem cutV_length (xs:List V) (lo hi:Option Int):(cutV xs lo hi).length≤xs.length:=by
  unfold cutV
  rw [List.length_take,List.length_drop]
  omega
end
end L2
namespace L2
open PySem PySem.Spec PyProof.Rows
def ixN (n:Nat) (i:Int):Option Nat:=if 0≤i then (if i < n then some i.toNat else none) else if -(n:Int)≤i then some (i+n).toNat else none
def atI {α:Type} (xs:List α) (i:Int):Option α:=(ixN xs.length i).bind fun j=>xs[j]?
theorem ixN_seq {n:Nat} {i:Int} {j:Nat} (h:ixN n i=some j):seqIndex? i n=some j∧j < n∧-(n:Int)≤i∧i < n:=by
  unfold ixN at h
  by_cases h0:0≤i
  · rw [if_pos h0] at h
    by_cases h1:i < n
    · rw [if_pos h1] at h
      have e:i.toNat=j:=Option.some.inj h
      exact ⟨by rw [seqIndex_of h0 h1,e],by omega,by omega,h1⟩
    · rw [if_neg h1] at h;cases h
  · rw [if_neg h0] at h
    by_cases h1:-(n:Int)≤i
    · rw [if_pos h1] at h
      have e:(i+n).toNat=j:=Option.some.inj h
      exact ⟨by rw [seqIndex_neg (by omega) h1,e],by omega,h1,by omega⟩
    · rw [if_neg h1] at h;cases h
theorem atI_get {α:Type} {xs:List α} {i:Int} {v:α} (h:atI xs i=some v):∃ j,seqIndex? i xs.length=some j∧xs[j]? = some v∧j < xs.length∧-(xs.length:Int)≤i∧i < xs.length:=by
  unfold atI at h
  cases e:ixN xs.length i with
  | none=>rw [e] at h;cases h
  | some j =>
    rw [e] at h
    obtain ⟨h1,h2,h3,h4⟩:=ixN_seq e
    exact ⟨j,h1,h,h2,h3,h4⟩
theorem atI_nat {α:Type} {xs:List α} {j:Nat} {v:α} (h:xs[j]? = some v):atI xs (j:Int)=some v:=by
  have hj:j < xs.length:=(List.getElem?_eq_some_iff.mp h).1
  have e:ixN xs.length (j:Int)=some j:=by
    unfold ixN
    rw [if_pos (by omega),if_pos (by omega)];simp
  unfold atI;rw [e];exact h
theorem atI_last {α:Type} (xs:List α) (v:α):atI (xs++[v]) (-1)=some v:=by
  have hl:(xs++[v]).length=xs.length+1:=by simp
  have e:ixN (xs++[v]).length (-1)=some xs.length:=by
    unfold ixN
    rw [hl,if_neg (by decide),if_pos (by omega)]
    congr 1
    omega
  unfold atI
  rw [e]
  show (xs++[v])[xs.length]? = some v
  simp
def PlainIx (b:Expr):Prop:=∀ o i,subscripted b false o i=operate [o,i] (getItem o i)
def IxR (X:Cx) (r:R2):Prop :=
  ∀ (value slice:Expr) (pins:List (Addr × Obj)) (s:Shared) (σ:St) (H:Hp) (x y:V) (v u:Value) (Q:VK),Inv X pins σ H s→RelV x v→RelV y u→r x y H Q →
    subscripted slice false v u=operate [v,u] (getItem v u)→wpAny (model X.prog X.w) X.A (subscriptTail value slice v u) (EP X pins σ Q) X.xe s
def MtR (X:Cx) (id:String) (r:V→List V→Hp→VK→Prop):Prop :=
  ∀ (pins:List (Addr × Obj)) (s:Shared) (σ:St) (H:Hp) (x:V) (xs:List V) (v:Value) (us:List Value) (Q:VK),Inv X pins σ H s→RelV x v→Vals xs us→r x xs H Q →
    wpAny (model X.prog X.w) X.A (call (.builtin id) (v :: us)) (EP X pins σ Q) X.xe s
section
variable {X:Cx} {a b:Expr} {ta tb:TE} {pos:Pos}
theorem IxR.or {r r':R2} (h:IxR X r) (h':IxR X r'):IxR X (fun x y H Q=>r x y H Q∨r' x y H Q):=by
  intro value slice pins s σ H x y v u Q I rx ry q hs
  rcases q with q | q
  · exact h value slice pins s σ H x y v u Q I rx ry q hs
  · exact h' value slice pins s σ H x y v u Q I rx ry q hs
theorem MtR.or {id:String} {r r':V→List V→Hp→VK→Prop} (h:MtR X id r) (h':MtR X id r'):MtR X id (fun x xs H Q=>r x xs H Q∨r' x xs H Q):=by
  intro pins s σ H x xs v us Q I rx rs q
  rcases q with q | q
  · exact h pins s σ H x xs v us Q I rx rs q
  · exact h' pins s σ H x xs v us Q I rx rs q
theorem pe_ix {r:R2} (hr:IxR X r) (ha:PE X a ta) (hb:PE X b tb) (hs:PlainIx b):PE X (.Subscript a b pos) (tOp r ta tb):=by
  intro pins s σ H Q I h
  exact Subscript_ (binT ha hb I h fun v u s2 x y H2 I2 rx ry q=>hr a b pins s2 σ H2 x y v u Q I2 rx ry q (hs _ _))
def rIxL (K:PySem.W.Frag):R2:=fun x y H Q=>∃ p xs i v,x=.ref p∧y=.int i∧SqL K H p xs∧atI xs i=some v∧Q v H
def rIxT (K:PySem.W.Frag):R2:=fun x y H Q=>∃ p xs i v,x=.ref p∧y=.int i∧SqT K H p xs∧atI xs i=some v∧Q v H
theorem ix_list:IxR X (rIxL X.K):=by
  intro value slice pins s σ H x y v u Q I rx ry h hs
  obtain ⟨p,xs,i,z,rfl,rfl,hq,he,q⟩:=h
  cases rx
  obtain ⟨t,rfl⟩:=ry
  obtain ⟨its,r,pl,hz⟩:=I.list hq
  obtain ⟨j,h1,h2,h3,h4,h5⟩:=atI_get he
  obtain ⟨w,ew,rw'⟩:=r.get h2
  have hl:=r.length
  have hn:=line63
  have fin:EP X pins σ Q w s:=⟨z,H,I,rw',q⟩
  by_cases h0:0≤i
  · have hj:i.toNat=j:=by
      rw [seqIndex_of h0 h5] at h1
      exact Option.some.inj h1
    exact item_listR pl.isList h0 (by omega) (by rw [hj];simpa using ew) fin hs
  · have hj:(i+(its.toArray.size:Int)).toNat=j:=by
      rw [seqIndex_neg (by omega) h4] at h1
      rw [List.size_toArray,← hl]
      exact Option.some.inj h1
    exact subscriptTail_builtinR (x:=w) pl.isList.typeIs slot_list_getitem.lookup
      (wpAny_getItem_list_neg (Q:=fun r s'=>r=w∧EP X pins σ Q r s') pl.isList (by omega) (by rw [List.size_toArray] <;> omega) (by omega) (by rw [hj];simpa using ew) ⟨rfl,fin⟩) hs
theorem ix_tup:IxR X (rIxT X.K):=by
  intro value slice pins s σ H x y v u Q I rx ry h hs
  obtain ⟨p,xs,i,z,rfl,rfl,hq,he,q⟩:=h
  cases rx
  obtain ⟨t,rfl⟩:=ry
  obtain ⟨its,r,pl,hz⟩:=I.tuple hq
  obtain ⟨j,h1,h2,h3,h4,h5⟩:=atI_get he
  obtain ⟨w,ew,rw'⟩:=r.get h2
  have hl:=r.length
  have hn:=line63
  have fin:EP X pins σ Q w s:=⟨z,H,I,rw',q⟩
  exact subscriptTail_builtinR (x:=w) pl.typeIs slot_tuple_getitem.lookup
    (getItem_tuple (j:=j) (Q:=fun r s'=>r=w∧EP X pins σ Q r s') pl (by omega) (by omega) (by rw [List.size_toArray,← hl];exact h1) (by simpa using ew) ⟨rfl,fin⟩) hs
theorem mapSeq_set (its:List Value) (n j:Nat) (u:Value):Obj.mapSeq (·.setIfInBounds j u) { cls:=.type "list",data:=.seq its.toArray n } = { cls:=.type "list",data:=.seq (its.set j u).toArray n }:=by
  simp [Obj.mapSeq]
theorem Inv.lst {pins:List (Addr × Obj)} {σ:St} {H:Hp} {s:Shared} {p:Addr} {xs:List V} (I:Inv X pins σ H s) (h:H p=some (.lst xs)) :
    ∃ (its:List Value) (n:Nat),Vals xs its∧s.heap.get? p=some { cls:=.type "list",data:=.seq its.toArray n }∧xs.length≤sizeLine:=by
  obtain ⟨z,its,n,r,e⟩:=I.hok p _ h
  exact ⟨its,n,r,e,z⟩
theorem Inv.lstUpd {pins:List (Addr × Obj)} {σ:St} {H:Hp} {s:Shared} {p:Addr} {xs ys:List V} {its its':List Value} {n n':Nat} {f:Obj→Obj} (I:Inv X pins σ H s) (h:H p=some (.lst xs))
    (ho:s.heap.get? p=some { cls:=.type "list",data:=.seq its.toArray n }) (hf:f { cls:=.type "list",data:=.seq its.toArray n } = { cls:=.type "list",data:=.seq its'.toArray n' }) (r:Vals ys its') (hz:ys.length≤sizeLine) (t:Nat) :
    Inv X pins σ (upd H p (.lst ys)) { s with heap:=s.heap.update p f,toks:=t }:=by
  have e:(s.heap.update p f).get? p=some { cls:=.type "list",data:=.seq its'.toArray n' }:=by
    rw [Heap.get?_update_self f ho (by rw [hf] <;> rfl),hf]
  refine I.write (x:=p) (e:=p) (by rw [h];trivial) (.inl rfl) (fun b u hb q=>(Heap.get?_update_other _ _ (Ne.symm hb)).trans q) ⟨_,e⟩ ?_
  exact ⟨hz,its',n',r,e⟩
def rSetL:V→V→V→Hp→(Hp→Prop)→Prop:=fun o i v H Q=>∃ p xs k j,o=.ref p∧i=.int k∧H p=some (.lst xs)∧ixN xs.length k=some j∧Q (upd H p (.lst (xs.set j v)))
theorem set_list:PSet X rSetL:=by
  intro pins s σ H o i v ov iv u Q I ro ri rv h
  obtain ⟨p,xs,k,j,rfl,rfl,hp,hj,q⟩:=h
  cases ro
  obtain ⟨t,rfl⟩:=ri
  obtain ⟨its,n,r,ho,hz⟩:=I.lst hp
  obtain ⟨h1,h2,h3,h4⟩:=ixN_seq hj
  have hl:=r.length
  have hn:=line63
  have I':Inv X pins σ (upd H p (.lst (xs.set j v))) { s with heap:=s.heap.update p (Obj.mapSeq (·.setIfInBounds j u)) } :=
    I.lstUpd hp ho (mapSeq_set its n j u) (r.set rv j) (by rw [List.length_set];exact hz) s.toks
  by_cases h0:0≤k
  · have hk:k.toNat=j:=by
      rw [seqIndex_of h0 h4] at h1
      exact Option.some.inj h1
    exact PySem.W.ki_setAt ho h0 (by omega) (by rw [List.size_toArray,← hl];exact h4) (by rw [hk];exact ⟨_,I',q⟩)
  · have hk:(k+(its.toArray.size:Int)).toNat=j:=by
      rw [seqIndex_neg (by omega) h3] at h1
      rw [List.size_toArray,← hl]
      exact Option.some.inj h1
    exact PySem.W.ki_setBack ho (by omega) (by rw [List.size_toArray,← hl];exact h3) (by omega) (by rw [hk];exact ⟨_,I',q⟩)
theorem slice_bounds (lo hi:Option Int) (n:Nat):(sliceBounds lo hi none n).1=((HT.sIx n 0 lo:Nat):Int)∧(sliceBounds lo hi none n).2.1=((HT.sIx n n hi:Nat):Int)∧(sliceBounds lo hi none n).2.2=1:=by
  refine ⟨?_,?_,rfl⟩
  · cases lo with
    | none=>simp [sliceBounds,HT.sIx]
    | some i =>
      simp only [sliceBounds,HT.sIx,Option.getD_none,show (1:Int) > 0 by decide,if_true]
      by_cases h:i < 0
      · simp only [h,if_true] <;> omega
      · simp only [h,if_false] <;> omega
  · cases hi with
    | none=>simp [sliceBounds,HT.sIx]
    | some i =>
      simp only [sliceBounds,HT.sIx,Option.getD_none,show (1:Int) > 0 by decide,if_true]
      by_cases h:i < 0
      · simp only [h,if_true] <;> omega
      · simp only [h,if_false] <;> omega
theorem slicePick_cut (its:List Value) (lo hi:Option Int):slicePick its.toArray lo hi none=((its.drop (HT.sIx its.length 0 lo)).take (HT.sIx its.length its.length hi - HT.sIx its.length 0 lo)).toArray:=by
  obtain ⟨h1,h2,h3⟩:=slice_bounds lo hi its.toArray.size
  unfold slicePick
  rw [h1,h2,h3]
  simp only [sliceRange_one,pick_run,List.size_toArray] <;> rfl
def rSlL (K:PySem.W.Frag):V→Option Int→Option Int→Hp→VK→Prop:=fun x lo hi H Q=>∃ a xs,x=.ref a∧SqL K H a xs∧∀ p,H p=none→Q (.ref p) (upd H p (.lst (cutV xs lo hi)))
theorem sl_list:SlR X (rSlL X.K):=by
  intro pins s σ H x v vl vu lo hi sl Q I rx hs pl pu h
  obtain ⟨a,xs,rfl,hx,q⟩:=h
  cases rx
  obtain ⟨its,r,ht,hz⟩:=I.list hx
  have hlen:=r.length
  refine ⟨"list",_,slot_list_getitem.lookup,ht.isList.typeIs,?_⟩
  refine wpAny_getItem_list_slice ht.isList hs pl pu .none (by simp) ?_ (by rw [List.size_toArray] <;> omega)
  rw [slicePick_cut,← hlen]
  refine ⟨.ref s.heap.objs.size,_,I.laid (t':=s.toks) (o:=.lst (cutV xs lo hi)) (fun b ob q=>Heap.get?_push_of_some _ q) (Nat.le_refl _) ?_,rfl,q _ (I.hok.fresh (Nat.le_refl _))⟩
  exact ⟨Nat.le_trans (cutV_length xs lo hi) hz,_,0,(r.drop (HT.sIx xs.length 0 lo)).take (HT.sIx xs.length xs.length hi - HT.sIx xs.length 0 lo),Heap.get?_push_size _ rfl⟩
def flatV:V→Bool
  | .non=>true
  | .bl _=>true
  | .int _=>true
  | .str _=>true
  | _=>false
def eqV:V→V→Bool
  | .non,.non=>true
  | .bl a,.bl b=>a == b
  | .bl a,.int b=>(if a then 1 else 0) == b
  | .int a,.bl b=>a == (if b then 1 else 0)
  | .int a,.int b=>a == b
  | .str a,.str b=>a == b
  | _,_=>false
theorem eqAt_V {A:Around} {s:Shared} {y x:V} {u v:Value} (ry:RelV y u) (rx:RelV x v) (fy:flatV y=true) (fx:flatV x=true):SeqAt.EqAt A s u v (eqV y x):=by
  cases y with
  | non =>
    cases ry
    cases x with
    | non=>cases rx;exact SeqAt.EqAt.same _
    | bl b=>cases rx;exact SeqAt.EqAt.none_bool b
    | int b=>obtain ⟨t,rfl⟩:=rx;exact SeqAt.EqAt.none_int b t
    | str b=>obtain ⟨t,rfl⟩:=rx;exact SeqAt.EqAt.none_str b t
    | _=>exact absurd (show false=true from fx) Bool.false_ne_true
  | bl a =>
    cases ry
    cases x with
    | non=>cases rx;exact SeqAt.EqAt.bool_none a
    | bl b=>cases rx;exact SeqAt.EqAt.bool_bool a b
    | int b=>obtain ⟨t,rfl⟩:=rx;exact SeqAt.EqAt.bool_int a b t
    | str b=>obtain ⟨t,rfl⟩:=rx;exact SeqAt.EqAt.bool_str a b t
    | _=>exact absurd (show false=true from fx) Bool.false_ne_true
  | int a =>
    obtain ⟨t',rfl⟩:=ry
    cases x with
    | non=>cases rx;exact SeqAt.EqAt.int_none a t'
    | bl b=>cases rx;exact SeqAt.EqAt.int_bool a t' b
    | int b=>obtain ⟨t,rfl⟩:=rx;exact SeqAt.EqAt.int_int a t' b t
    | str b=>obtain ⟨t,rfl⟩:=rx;exact SeqAt.EqAt.int_str a t' b t
    | _=>exact absurd (show false=true from fx) Bool.false_ne_true
  | str a =>
    obtain ⟨t',rfl⟩:=ry
    cases x with
    | non=>cases rx;exact SeqAt.EqAt.str_none a t'
    | bl b=>cases rx;exact SeqAt.EqAt.str_bool a t' b
    | int b=>obtain ⟨t,rfl⟩:=rx;exact SeqAt.EqAt.str_int a t' b t
    | str b=>obtain ⟨t,rfl⟩:=rx;exact SeqAt.EqAt.str_str a t' b t
    | _=>exact absurd (show false=true from fx) Bool.false_ne_true
  | _=>exact absurd (show false=true from fy) Bool.false_ne_true
theorem call_len_seq:CallR X (.builtin "len") (fun xs H Q=>∃ p ys,xs=[.ref p]∧(SqL X.K H p ys∨SqT X.K H p ys)∧Q (.int ys.length) H):=by
  intro pins s σ H xs us Q I r h
  obtain ⟨p,ys,rfl,hq,q⟩:=h
  obtain ⟨u,rfl,rx⟩:=vals1 r
  cases rx
  have hn:=line63
  rcases hq with hq | hq
  · obtain ⟨its,r',pl,hz⟩:=I.list hq
    have hlen:=r'.length
    exact Calls.call_len_list pl.isList (by simp only [List.size_toArray] <;> omega) ⟨.int ys.length,H,I.tok _,⟨s.toks+1,by rw [List.size_toArray,hlen]⟩,q⟩
  · obtain ⟨its,r',pl,hz⟩:=I.tuple hq
    have hlen:=r'.length
    exact len_tuple pl (by simp only [List.size_toArray] <;> omega) ⟨.int ys.length,H,I.tok _,⟨s.toks+1,by rw [List.size_toArray,hlen]⟩,q⟩
theorem CallR.or {f:Value} {r r':List V→Hp→VK→Prop} (h:CallR X f r) (h':CallR X f r'):CallR X f (fun xs H Q=>r xs H Q∨r' xs H Q):=by
  intro pins s σ H xs us Q I rs q
  rcases q with q | q
  · exact h pins s σ H xs us Q I rs q
  · exact h' pins s σ H xs us Q I rs q
theorem call_list_of:CallR X (.type "list") (fun xs H Q=>∃ p ys,xs=[.ref p]∧(SqL X.K H p ys∨SqT X.K H p ys)∧∀ l,H l=none→Q (.ref l) (upd H l (.lst ys))):=by
  intro pins s σ H xs us Q I r h
  obtain ⟨p,ys,rfl,hq,q⟩:=h
  obtain ⟨u,rfl,rx⟩:=vals1 r
  cases rx
  have fin:∀ (its:List Value),Vals ys its→ys.length≤sizeLine→∀ (h':Heap) (c':Nat),(∀ b o',s.heap.get? b=some o'→h'.get? b=some o') →
      h'.get? s.heap.objs.size=some { cls:=.type "list",dict:=none,data:=.seq its.toArray c',slots:=#[] }→EP X pins σ Q (.ref s.heap.objs.size) { s with heap:=h' }:=fun its r' hz h' c' kp e =>
    ⟨.ref s.heap.objs.size,_,I.laid (t':=s.toks) kp (Nat.le_refl _) (show ObjOk X.prog X.w _ h' _ (.lst ys) from ⟨hz,its,c',r',e⟩),rfl,q _ (I.hok.fresh (Nat.le_refl _))⟩
  rcases hq with hq | hq
  · obtain ⟨its,r',pl,hz⟩:=I.list hq
    have hlen:=r'.length
    obtain ⟨o,ho,hc,n,hd⟩:=pl.isList
    exact call_list_seq p (.inl rfl) ho hc hd (fun h' c' kp e=>fin its r' hz h' c' kp e) (by simp only [List.size_toArray] <;> omega)
  · obtain ⟨its,r',pl,hz⟩:=I.tuple hq
    have hlen:=r'.length
    obtain ⟨o,ho,hc,n,hd⟩:=pl
    exact call_list_seq p (.inr rfl) ho hc hd (fun h' c' kp e=>fin its r' hz h' c' kp e) (by simp only [List.size_toArray] <;> omega)
theorem call_tuple_of:CallR X (.type "tuple") (fun xs H Q=>∃ p ys,xs=[.ref p]∧((SqL X.K H p ys∧∀ l,H l=none→Q (.ref l) (upd H l (.tup ys)))∨(SqT X.K H p ys∧Q (.ref p) H))):=by
  intro pins s σ H xs us Q I r h
  obtain ⟨p,ys,rfl,h⟩:=h
  obtain ⟨u,rfl,rx⟩:=vals1 r
  cases rx
  rcases h with ⟨hq,q⟩ | ⟨hq,q⟩
  · obtain ⟨its,r',pl,hz⟩:=I.list hq
    have hlen:=r'.length
    refine call_tuple_list pl.isList (fun h' kp=>?_) (by simp only [List.size_toArray] <;> omega)
    have I1:Inv X pins σ H { s with heap:=h' }:=I.kept (t':=s.toks) kp
    have I2:Inv X pins σ (upd H h'.objs.size (.tup ys)) { s with heap:=h'.push { cls:=.type "tuple",data:=.seq its.toArray } } :=
      I1.laid (t':=s.toks) (fun b o e=>Heap.get?_push_of_some _ e) (Nat.le_refl _) (show ObjOk X.prog X.w _ _ _ (.tup ys) from ⟨hz,its,r',IsTup.new _ _,_,Heap.get?_push_size _ rfl,rfl⟩)
    exact ⟨.ref h'.objs.size,_,I2,rfl,q _ (I1.hok.fresh (Nat.le_refl _))⟩
  · obtain ⟨its,r',pl,hz⟩:=I.tuple hq
    exact call_tuple_same pl ⟨.ref p,H,I,rfl,q⟩
def tyV (K:PySem.W.Frag) (T:String) (x:V) (H:Hp):Prop:=match x with
  | .str _=>T = "str"
  | .int _=>T = "int"
  | .ref p=>(T = "list"∧∃ xs,SqL K H p xs)∨(T = "tuple"∧∃ o,K.lookup p=some o∧o.cls=.type "tuple"∧o.dict=none) ∨
      (T = "dict"∧((∃ kvs,H p=some (.dK kvs))∨∃ kvs,H p=some (.dT kvs)))∨(T = "set"∧∃ S n,H p=some (.set S n))
  | _=>False
theorem tyV_is {pins:List (Addr × Obj)} {σ:St} {H:Hp} {s:Shared} {T:String} {x:V} {v:Value} (I:Inv X pins σ H s) (r:RelV x v) (ty:tyV X.K T x H) :
    s.TypeIs v T∧∀ a,v=.ref a→∃ ob,s.heap.get? a=some ob∧ob.dict=none:=by
  cases x with
  | str z =>
    obtain ⟨t,rfl⟩:=r
    cases (show T = "str" from ty)
    exact ⟨typeIs_str s z t,fun _ e=>nomatch e⟩
  | int i =>
    obtain ⟨t,rfl⟩:=r
    cases (show T = "int" from ty)
    exact ⟨typeIs_int s i t,fun _ e=>nomatch e⟩
  | ref p =>
    cases r
    rcases ty with ⟨rfl,xs,hq⟩ | ⟨rfl,o,hk,hc,hd⟩ | ⟨rfl,hk⟩ | ⟨rfl,S,n,hk⟩
    · obtain ⟨its,_,pl,_⟩:=I.list hq
      refine ⟨pl.isList.typeIs,fun a e=>?_⟩
      cases e
      obtain ⟨o,n,e,c,hd,_⟩:=pl
      exact ⟨o,e,hd⟩
    · refine ⟨⟨o,I.kIn p o hk,hc⟩,fun a e=>?_⟩
      cases e
      exact ⟨o,I.kIn _ o hk,hd⟩
    · have z:∃ o,s.heap.get? p=some o∧o.ExactDict:=by
        rcases hk with ⟨kvs,hk⟩ | ⟨kvs,hk⟩
        · obtain ⟨_,_,_,_,o,_,_,e,ex,_⟩:=I.hok p _ hk
          exact ⟨o,e,ex⟩
        · obtain ⟨_,_,_,_,o,_,_,e,ex,_⟩:=I.hok p _ hk
          exact ⟨o,e,ex⟩
      obtain ⟨o,e,ex⟩:=z
      refine ⟨⟨o,e,ex.1⟩,fun a e2=>?_⟩
      cases e2
      exact ⟨o,e,ex.2.1⟩
    · obtain ⟨o,_,_,_,e,ex,_⟩:=I.hok p _ hk
      refine ⟨⟨o,e,ex.1⟩,fun a e2=>?_⟩
      cases e2
      exact ⟨o,e,ex.2.1⟩
  | _=>exact False.elim ty
def tBM (K:PySem.W.Frag) (T:String) (r:V→List V→Hp→VK→Prop) (to:TE) (t:TA):TE:=fun σ H Q=>to σ H fun x H1=>tyV K T x H1∧t σ H1 fun xs H2=>r x xs H2 Q
variable {o e:Expr} {es:List Expr} {to:TE} {t:TA} {name:Str} {apos cpos:Pos} {T id:String} {r:V→List V→Hp→VK→Prop}
theorem pe_bm (pa:PlainAttrs T) (slot:Slot T name id) (hty:typeOf (.builtin id)=pure (.type "method_descriptor")) (hm:MtR X id r) (ho:PE X o to) (ha:PA X (e :: es) t)
    (hbase:attributeBase o name X.env (eval o X.env)=eval o X.env:=by rfl)
    (hfew:((backTo cpos (starEach (e :: es) X.env)).all (fun x=>!x.1) && (backToKw cpos (keywordEach [] X.env)).all (fun x=>x.1.isSome)
      && decide ((e :: es).length+([]:List Keyword).length+(if ([]:List Keyword).isEmpty then 0 else 1) < 30))=true:=by rfl)
    (hline:(apos.endLine == cpos.line)=true:=by rfl) (hs:starEach (e :: es) X.env=(false,eval e X.env) :: starEach es X.env:=by rfl) (hplain:(backTo cpos (starEach es X.env)).any (·.1)=false:=by rfl) :
    PE X (.Call (.Attribute o name apos) (e :: es) [] cpos) (tBM X.K T r to t):=by
  intro pins s σ H Q I h
  refine wpAny_Call_method_late hbase hfew hline rfl (thn (ho pins s σ H _ I h) fun v s1 ⟨x,H1,I1,r1,ty,q1⟩=>?_)
  obtain ⟨h1,h2⟩:=tyV_is I1 r1 ty
  refine ⟨T,id,pa,slot,hty,h1,h2,?_⟩
  have hA:=ha cpos pins s1 σ H1 _ I1 q1
  rw [hs] at hA ⊢
  refine Calls.callWith_builtin (by show (false || (backTo cpos (starEach es X.env)).any (·.1))=false;rw [hplain] <;> rfl) (Calls.evalArgs_plain ?_)
  exact thn hA fun us s2 ⟨vs,H2,I2,r2,q2⟩=>hm pins s2 σ H2 x vs v us Q I2 r1 r2 q2
/- xs.append(e),list.index on a module's tuple .. are MtR facts of 06m -/
end
end L2
namespace L2
open PySem PySem.Spec PyProof.Rows
def MtM (X:Cx) (id:String) (r:V→List V→Hp→VK→Prop):Prop :=
  ∀ (pins:List (Addr × Obj)) (s:Shared) (σ:St) (H:Hp) (x:V) (xs:List V) (v:Value) (us:List Value) (Q:VK),Inv X pins σ H s→RelV x v→Vals xs us→r x xs H Q →
    wpAny (model X.prog X.w) X.A (call (.builtin id) (v :: us)) (EP X pins σ Q) X.xe s
theorem Vals.one:∀ {x:V} {us:List Value},Vals [x] us→∃ u,us=[u]∧RelV x u
  | _,_,.cons r .nil=>⟨_,rfl,r⟩
theorem Vals.two:∀ {x y:V} {us:List Value},Vals [x,y] us→∃ u v,us=[u,v]∧RelV x u∧RelV y v
  | _,_,_,.cons r (.cons q .nil)=>⟨_,_,rfl,r,q⟩
theorem Vals.zero:∀ {us:List Value},Vals [] us→us=[]
  | _,.nil=>rfl
theorem Vals.dropLast {xs:List V} {us:List Value} (h:Vals xs us):Vals xs.dropLast us.dropLast:=by
  induction h with
  | nil=>exact .nil
  | cons r t ih =>
    cases t with
    | nil=>exact .nil
    | cons q t'=>exact .cons r ih
theorem Vals.reverse {xs:List V} {us:List Value} (h:Vals xs us):Vals xs.reverse us.reverse:=by
  induction h with
  | nil=>exact .nil
  | cons r t ih=>rw [List.reverse_cons,List.reverse_cons];exact Vals.append ih (.cons r .nil)
section
variable {X:Cx} {pins:List (Addr × Obj)} {σ:St} {H:Hp} {s:Shared} {l b:Addr} {xs ys zs:List V}
theorem Inv.lset {its its':List Value} {n:Nat} {f:Array Value→Array Value} {t':Nat} (I:Inv X pins σ H s) (hH:H l=some (.lst xs))
    (e:s.heap.get? l=some { cls:=.type "list",data:=.seq its.toArray n }) (hf:f its.toArray=its'.toArray) (hv:Vals ys its') (hz:ys.length≤sizeLine) :
    Inv X pins σ (upd H l (.lst ys)) { s with heap:=s.heap.update l (Obj.mapSeq f),toks:=t' }:=by
  have q:=PySem.IsL.update e f
  rw [hf] at q
  refine I.write (x:=l) (e:=l) (by rw [hH];exact trivial) (.inl rfl) (fun b' u hb hu=>(Heap.get?_update_other s.heap (Obj.mapSeq f) (Ne.symm hb)).trans hu) ⟨_,q⟩ ?_
  exact ⟨hz,its',_,hv,q⟩
theorem Inv.lnew {its:List Value} {t':Nat} (I:Inv X pins σ H s) (hv:Vals ys its) (hz:ys.length≤sizeLine) :
    Inv X pins σ (upd H s.heap.objs.size (.lst ys)) { s with heap:=s.heap.push { cls:=.type "list",data:=.seq its.toArray },toks:=t' } :=
  I.laid (fun _ _ q=>Heap.get?_push_of_some _ q) (Nat.le_refl _) ⟨hz,its,0,hv,Heap.get?_push_size _ rfl⟩
theorem Inv.fresh (I:Inv X pins σ H s):H s.heap.objs.size=none:=I.hok.fresh (Nat.le_refl _)
theorem Inv.lstM (I:Inv X pins σ H s) (hH:H l=some (.lst xs)):xs.length≤sizeLine∧∃ (its:List Value) (n:Nat),Vals xs its∧xs.length=its.length∧s.heap.get? l=some { cls:=.type "list",data:=.seq its.toArray n }:=by
  obtain ⟨z,its,n,r,e⟩:=I.hok l _ hH
  exact ⟨z,its,n,r,r.length,e⟩
end
section
variable {X:Cx}
def rAppend:V→List V→Hp→VK→Prop:=fun x vs H Q=>∃ l xs y,x=.ref l∧vs=[y]∧H l=some (.lst xs)∧xs.length < sizeLine∧Q .non (upd H l (.lst (xs++[y])))
theorem mt_append:MtM X "list.append" rAppend:=by
  intro pins s σ H x vs v us Q I rx rv h
  obtain ⟨l,xs,y,rfl,rfl,hH,hz,q⟩:=h
  cases rx
  obtain ⟨u,rfl,ru⟩:=rv.one
  obtain ⟨z,its,n,r,hl,e⟩:=I.lstM hH
  refine call_meets F.slot_list_append ⟨_,e,rfl⟩ F.entry_list_append (F.args_list_append_2 _ _) (PySem.list_append l its.toArray n u (by rw [List.size_toArray];omega)) ⟨e,?_⟩
  refine ⟨.non,_,I.lset (its':=its++[u]) hH e (by simp) (r.append (.cons ru .nil)) ?_,rfl,q⟩
  rw [List.length_append,List.length_singleton]
  omega
def rCat:R2:=fun x y H Q=>∃ l b xs zs,x=.ref l∧y=.ref b∧H l=some (.lst xs)∧H b=some (.lst zs)∧xs.length+zs.length≤sizeLine∧∀ p,H p=none→Q (.ref p) (upd H p (.lst (xs++zs)))
theorem op_cat:OpR X (binaryOp .Add) rCat:=by
  intro pins s σ H x y v u Q I rx ry h
  obtain ⟨l,b,xs,zs,rfl,rfl,hH,hB,hz,q⟩:=h
  cases rx
  cases ry
  obtain ⟨z,its,n,r,hl,e⟩:=I.lstM hH
  obtain ⟨z2,its2,n2,r2,hl2,e2⟩:=I.lstM hB
  refine PySem.P.add_list e e2 ?_ (by rw [List.size_toArray,List.size_toArray];omega)
  have ea:its.toArray++its2.toArray=(its++its2).toArray:=by simp
  rw [ea]
  exact ⟨.ref _,_,I.lnew (t':=s.toks) (r.append r2) (by rw [List.length_append];omega),rfl,q _ I.fresh⟩
end
section
variable {prog:Program} {w:World} {A:Around} {E:Value→Shared→Prop} {s:Shared}
set_option maxRecDepth 100000 in
end
section
variable {X:Cx}
end
end L2
namespace L2
open PySem PySem.Spec PyProof.Rows
section
variable {κ:Type} [DecidableEq κ]
def valV (kvs:List (κ × V)) (k:κ):Option V:=(kvs.find? fun kv=>decide (kv.1=k)).map (·.2)
def putK (kvs:List (κ × V)) (k:κ) (v:V):List (κ × V) :=
  if (kvs.any fun kv=>decide (kv.1=k))=true then kvs.map (fun kv=>if kv.1=k then (kv.1,v) else kv) else kvs++[(k,v)]
def dropK (kvs:List (κ × V)) (k:κ):List (κ × V):=kvs.filter fun kv=>decide (kv.1≠k)
theorem RelO.getD {o:Option V} {u:Option Value} {d:V} {d':Value} (r:RelO o u) (rd:RelV d d'):RelV (o.getD d) (u.getD d'):=by
  cases o with
  | none=>cases u with
    | none=>exact rd
    | some _=>exact (show False from r).elim
  | some _=>cases u with
    | none=>exact (show False from r).elim
    | some _=>exact r
theorem KV.any {kvs:List (κ × V)} {vs:List (κ × Value)} (r:KV kvs vs) (k:κ):(kvs.any fun kv=>decide (kv.1=k))=vs.any fun kv=>decide (kv.1=k):=by
  unfold KV at r
  induction r with
  | nil=>rfl
  | cons h t ih=>rw [List.any_cons,List.any_cons,ih,h.1]
theorem KV.drop {kvs:List (κ × V)} {vs:List (κ × Value)} (r:KV kvs vs) (k:κ):KV (dropK kvs k) (without vs k):=by
  unfold KV at r ⊢
  unfold dropK without
  induction r with
  | nil=>exact .nil
  | @cons p q ps qs h t ih =>
    obtain ⟨h1,h2⟩:=h
    rw [List.filter_cons,List.filter_cons]
    by_cases e:p.1=k
    · have a:¬ decide (p.1≠k)=true:=by simp [e]
      have b:¬ decide (q.1≠k)=true:=by simp [h1.symm.trans e]
      rw [if_neg a,if_neg b];exact ih
    · have e':¬ q.1=k:=fun z=>e (h1.trans z)
      have a:decide (p.1≠k)=true:=by simp [e]
      have b:decide (q.1≠k)=true:=by simp [e']
      rw [if_pos a,if_pos b];exact .cons ⟨h1,h2⟩ ih
theorem KV.keys {kvs:List (κ × V)} {vs:List (κ × Value)} (r:KV kvs vs):kvs.map (·.1)=vs.map (·.1):=by
  unfold KV at r
  induction r with
  | nil=>rfl
  | cons h t ih=>rw [List.map_cons,List.map_cons,ih,h.1]
theorem KV.length {kvs:List (κ × V)} {vs:List (κ × Value)} (r:KV kvs vs):kvs.length=vs.length:=Paired.length r
end
abbrev KT (H:Hp):List (List Key × V)→List (List Key × Addr × Value)→Prop:=Paired fun p q=>p.1=q.1∧H q.2.1=some (.tup (p.1.map kV))∧RelV p.2 q.2.2
theorem KT.keeps {H H':Hp} {kvs:List (List Key × V)} {xs:List (List Key × Addr × Value)} (r:KT H kvs xs) (ht:∀ b ys,H b=some (.tup ys)→H' b=some (.tup ys)):KT H' kvs xs :=
  Paired.mapP r fun _ _ z=>⟨z.1,ht _ _ z.2.1,z.2.2⟩
section
variable {P:Program} {w:World} {H:Hp} {h:Heap} {a:Addr}
end
def DGet (H:Hp) (a:Addr) (y:V) (r:Option V):Prop :=
  (∃ kvs k,Rd H a (.dK kvs)∧y=kV k∧r=valV kvs k)∨∃ kvs k b,Rd H a (.dT kvs)∧y=.ref b∧H b=some (.tup (k.map kV))∧r=valV kvs k
def DPut (H:Hp) (a:Addr) (y v:V) (H':Hp):Prop :=
  (∃ kvs k,H a=some (.dK kvs)∧y=kV k∧kvs.length < sizeLine∧H'=upd H a (.dK (putK kvs k v))) ∨
  ∃ kvs k b,H a=some (.dT kvs)∧y=.ref b∧H b=some (.tup (k.map kV))∧kvs.length < sizeLine∧H'=upd H a (.dT (putK kvs k v))
theorem DGet.k {H:Hp} {a:Addr} {kvs:List (Key × V)} {k:Key} (e:H a=some (.dK kvs)):DGet H a (kV k) (valV kvs k):=.inl ⟨kvs,k,.inl e,rfl,rfl⟩
theorem DGet.t {H:Hp} {a b:Addr} {kvs:List (List Key × V)} {k:List Key} (e:H a=some (.dT kvs)) (eb:H b=some (.tup (k.map kV))):DGet H a (.ref b) (valV kvs k):=.inr ⟨kvs,k,b,.inl e,rfl,eb,rfl⟩
theorem DPut.k {H:Hp} {a:Addr} {kvs:List (Key × V)} {k:Key} {v:V} (e:H a=some (.dK kvs)) (hl:kvs.length < sizeLine):DPut H a (kV k) v (upd H a (.dK (putK kvs k v))):=.inl ⟨kvs,k,e,rfl,hl,rfl⟩
theorem DPut.t {H:Hp} {a b:Addr} {kvs:List (List Key × V)} {k:List Key} {v:V} (e:H a=some (.dT kvs)) (eb:H b=some (.tup (k.map kV))) (hl:kvs.length < sizeLine) :
    DPut H a (.ref b) v (upd H a (.dT (putK kvs k v))):=.inr ⟨kvs,k,b,e,rfl,eb,hl,rfl⟩
section
variable {X:Cx} {pins:List (Addr × Obj)} {σ:St} {H:Hp} {s:Shared} {a:Addr} {y v:V} {u r:Value} {o:Option V} {A:Around} {E:Value→Shared→Prop}
theorem Inv.big (I:Inv X pins σ H s):sysModules < s.heap.objs.size:=by
  have h:mainGlobals < s.heap.objs.size:=(I.mod.glob.keeps I.bk).lt
  exact Nat.lt_trans (by decide) h
end
section
variable {X:Cx} {pins:List (Addr × Obj)} {σ:St} {H:Hp} {s:Shared} {a:Addr} {kvs:List (Key × V)} {k:Key} {u:Value} {A:Around} {E:Value→Shared→Prop}
end
section
variable {X:Cx} {o i e value:Expr} {pos pos' tpos:Pos} {td ty tv:TE}
end
theorem dk_empty {P:Program} {w:World} {H:Hp} (h:Heap) (hb:sysModules < h.objs.size):ObjOk P w H (h.push { cls:=.type "dict",data:=.dict #[] }) h.objs.size (.dK []) :=
  ⟨Nat.zero_le _,beq_eq_false_iff_ne.mpr (Ne.symm (Nat.ne_of_lt hb)),[],.nil,Heap.DictOf.new h⟩
def tDNewK:TE:=fun _ H Q=>∀ p,H p=none→Q (.ref p) (upd H p (.dK []))
section
variable {X:Cx} {pos:Pos}
theorem pe_dnewK:PE X (.Dict [] [] pos) tDNewK:=fun pins s σ H Q I h =>
  wpAny_Dict_empty ⟨.ref s.heap.objs.size,_,I.laid (a:=s.heap.objs.size) (o:=.dK []) (t':=s.toks) (fun _ _ q=>Heap.get?_push_of_some _ q) (Nat.le_refl _) (dk_empty s.heap I.big),rfl,h _ (I.hok.fresh (Nat.le_refl _))⟩
end
structure M1 (X:Cx) (o:Expr) (m:Str) (apos:Pos) (e:Expr) (cpos:Pos):Prop where
  base:attributeBase o m X.env (eval o X.env)=eval o X.env
  few:((backTo cpos (starEach [e] X.env)).all (fun x=>!x.1) && (backToKw cpos (keywordEach [] X.env)).all (fun x=>x.1.isSome)
    && decide (([e]:List Expr).length+([]:List Keyword).length+(if ([]:List Keyword).isEmpty then 0 else 1) < 30))=true
  line:(apos.endLine == cpos.line)=true
  trees:backTo cpos (starEach [e] X.env)=[(false,eval e X.env)]
structure M2 (X:Cx) (o:Expr) (m:Str) (apos:Pos) (e f:Expr) (cpos:Pos):Prop where
  base:attributeBase o m X.env (eval o X.env)=eval o X.env
  few:((backTo cpos (starEach [e,f] X.env)).all (fun x=>!x.1) && (backToKw cpos (keywordEach [] X.env)).all (fun x=>x.1.isSome)
    && decide (([e,f]:List Expr).length+([]:List Keyword).length+(if ([]:List Keyword).isEmpty then 0 else 1) < 30))=true
  line:(apos.endLine == cpos.line)=true
  trees:backTo cpos (starEach [e,f] X.env)=[(false,eval e X.env),(false,eval f X.env)]
section
variable {X:Cx} {pins:List (Addr × Obj)} {σ:St} {H:Hp} {s:Shared} {a:Addr} {y d:V} {u r:Value} {o:Option V} {A:Around} {E:Value→Shared→Prop}
end
section
variable {X:Cx} {o e f:Expr} {apos cpos:Pos} {td ty tx:TE}
end
section
variable {X:Cx} {pins:List (Addr × Obj)} {σ:St} {H:Hp} {s:Shared} {a:Addr} {kvs:List (Key × V)} {A:Around} {E:Value→Shared→Prop}
end
section
variable {X:Cx} {pins:List (Addr × Obj)} {σ:St} {H:Hp} {s:Shared} {a:Addr} {y:V} {u:Value} {A:Around} {E:Value→Shared→Prop}
end
end L2
namespace Att
open PySem PySem.W PySem.Calls PyProof.Rows
theorem ints_of_wellAll {P:Params} {h:Heap}:∀ (ns:List Int) (vs:List Value),WellAll P h vs (ns.map WData.int)→IntsAre vs ns:=by
  intro ns
  induction ns with
  | nil =>
    intro vs w
    rw [List.map_nil] at w
    cases w
    exact .nil
  | cons n ns ih =>
    intro vs w
    rw [List.map_cons] at w
    cases w with
    | cons a b =>
      cases a
      exact .cons _ _ (ih _ b)
theorem script_of {l:OpenLaw} {n:Nat} (hn:l.most=some n) {P:Params} {h:Heap} {args:List WData} {vals:List Value}
    (hpre:l.row.toRowW.claim.pre args=true) (hwl:WellAll P h vals args) :
    ∃ a vs ns,vals=[Value.ref a]∧args=[WData.list (ns.map WData.int)]∧h.get? a=some { cls:=.type "list",data:=.seq vs.toArray }∧IntsAre vs ns∧ns.length≤n:=by
  have hsh:WShape.hasAll [] args [.list .int]=true:=(pre_splitW hpre).1
  have hc:l.pre.holds [] { args:=args }=true:=(pre_splitW hpre).2
  obtain ⟨d,r,rfl,h1,h2⟩:=hasAllW_cons hsh
  obtain rfl:=hasAllW_nil h2
  obtain ⟨xs,rfl,h3⟩:=hasW_list h1
  obtain ⟨ns,rfl⟩:=items_int h3
  have hlen:ns.length≤n:=by
    unfold OpenLaw.pre at hc
    have h4:(WTm.not (.lt (.lit (.int (n:Int))) (.len (.arg 0)))).holds [] { args:=[.list (ns.map .int)] }=true:=by
      have h4:=(holds_andW hc).1
      rw [hn] at h4
      exact h4
    have h5:=condW_of h4 (w_not (w_lt w_lit (w_len_list (w_arg rfl))))
    rw [List.length_map] at h5
    refine Nat.le_of_not_lt fun q=>?_
    have q':(n:Int) < ((ns.length:Nat):Int):=by omega
    first
      | (rw [decide_eq_true q'] at h5;exact absurd h5 (by decide))
      | (simp at h5;omega)
  cases hwl with
  | cons w1 w2 =>
    cases w2
    cases w1 with
    | list ho hall=>exact ⟨_,_,ns,rfl,rfl,ho,ints_of_wellAll ns _ hall,hlen⟩
theorem post_true (l:OpenLaw) (args:List WData):l.row.toRowW.claim.post args (.bool true) args=true :=
  postW_of (r:=l.row.toRowW) (X:=(true == true))
    (show WShape.has [] (.bool true) .bool=true by first | rfl | decide | simp [WShape.has,WShape.arms,WShape.armsAll])
    (show (WTm.eq .res (.lit (.bool true))).value [] { args:=args,res:=some (.bool true),after:=args }=some (.bool (true == true)) from w_eq_bool (w_res rfl) w_lit) rfl
theorem attach_call {l:OpenLaw} {n:Nat} {q:Program} {loose:List Str} {XP:(Str→Option Value)→Heap→Prop} {YP:World→Heap→Prop} {d:DefRec}
    (hn:l.most=some n) (hdf:d.params.defaults=[])
    (call:∀ (w:World) (s₀ s₁:Shared) (mg mb:Str→Option Value) (fa:Addr) (o:Obj) (pm cd doc:Value) (a:Addr) (vs:List Value) (ns:List Int),
      Ground q loose [] XP w s₀ mg mb s₁.heap→YP w s₁.heap →
      s₁.heap.get? fa=some o→o.data=.func (docDef d.name d.params d.body d.scope pm cd doc)→s₁.heap.CodeRec cd d.name→mg d.name=some (.ref fa) →
      s₁.heap.get? a=some { cls:=.type "list",data:=.seq vs.toArray }→IntsAre vs ns→ns.length≤n→s₁.gens = #[] →
      codeAny (model l.prog w) callerA (.call (.ref fa) ⟨[.ref a],[]⟩) (fun r s'=>r=.ok (.ret (.bool true))∧OldK s₁.heap s'.heap∧s'.os=s₁.os∧AllBare s'.gens) s₁) :
    WalkO q loose XP YP l.row.toRowW d [] (fun f vs=>PySem.call f vs):=by
  intro w s₀ s₁ mg mb G Y fa o pm cd doc dV kV ho hd hcd hD hmg hg args vals as hpre hlay hrd hwl hlo
  obtain rfl:dV=.none:=Dflts.none hD hdf
  obtain rfl:kV=.none:=Dflts.noKw hD
  obtain ⟨a,vs,ns,rfl,rfl,hobj,hints,hlen⟩:=script_of hn hpre hwl
  refine enter_call (codeAny_mono (call w s₀ s₁ mg mb fa o pm cd doc a vs ns G Y ho (fd_plain hd) hcd hmg hobj hints hlen hg) fun r s' hq=>?_)
  obtain ⟨rfl,h2,h3,h4⟩:=hq
  exact ⟨.inl ⟨.bool true,.bool true,[],rfl,fun _=>rfl,.bool true,post_true l _,fun _=>⟨List.Pairwise.nil,fun _ hm=>(nomatch hm)⟩⟩,h2,h3,h4⟩
section
variable {prog:Program} {w:World} {A:Around} {E:Value→Shared→Prop} {s:Shared} {K:Frag}
def ledger (h:Heap) (L d:Addr):List (Addr × Obj):=(List.range h.objs.size).filterMap fun a=>if a=L∨a=d then none else (h.get? a).map fun o=>(a,o)
end
end Att
namespace L2
open PySem PySem.Spec PyProof.Rows
theorem vals_ints:∀ {vs:List Value} {ns:List Int},IntsAre vs ns→Vals (ns.map V.int) vs
  | _,_,.nil=>.nil
  | _,_,.cons n t h=>.cons ⟨t,rfl⟩ (vals_ints h)
def Only (H:Hp):Prop:=∀ b,H b=none∨∃ o xs,H b=some (.frz o (.lst xs))
theorem law_call {P:Program} {w:World} {K:PySem.W.Frag} {mg mb:Str→Option Value} {CX:CXT} {k:Nat} {fa a:Addr} {fd:FuncData} {x:Str} {sp:Sp} {s₁:Shared} {vs:List Value} {ns:List Int}
    (KX:K.In s₁.heap) (hns:s₁.heap.Ns mainGlobals mg) (hb:s₁.heap.Ns builtinsNs mb) (hbb:∀ x:Str,x≠"__name__"→mb x=bootBuiltins x) (hlim:s₁.heap.NoLimit) (hg:s₁.gens = #[])
    (ha:s₁.heap.get? a=some { cls:=.type "list",data:=.seq vs.toArray }) (hi:IntsAre vs ns) (hl:ns.length≤sizeLine) (hr:Room k callerA)
    (F:∀ base:Heap,K.In base→base.Ns mainGlobals mg→FnOk P w K mg base CX k fa fd [x] sp) (hbind:∀ (s:Shared) (u:Value),BindsTo s fd ⟨[u],[]⟩ [(x,u)])
    (hsp:∀ H:Hp,Only H→SqL K H a (ns.map V.int)→sp [.ref a] H (fun v _=>v=.bl true) fun _ _ _=>False)
    (hCX:∀ H e s',CX [] H s₁ (fun _ _ _=>False) e s'→False) :
    codeAny (model P w) callerA (.call (.ref fa) ⟨[.ref a],[]⟩) (fun r s'=>r=.ok (.ret (.bool true))∧OldK s₁.heap s'.heap∧s'.os=s₁.os∧AllBare s'.gens) s₁:=by
  have rv:=vals_ints hi
  have lenV:=hi.length
  -- from an abstract heap in which nothing but the script may be tracked
  have core:∀ H:Hp,Only H→SqL K H a (ns.map V.int)→HOk P w H s₁.heap→(∀ b,H b≠none→b=a)→(H a≠none→K.lookup a=none) →
      codeAny (model P w) callerA (.call (.ref fa) ⟨[.ref a],[]⟩) (fun r s'=>r=.ok (.ret (.bool true))∧OldK s₁.heap s'.heap∧s'.os=s₁.os∧AllBare s'.gens) s₁:=by
    intro H hO hS hok hA hK
    have base_of:∀ {b:Addr} {o:Obj},s₁.heap.get? b=some o→H b=none→(hidT s₁.heap H).get? b=some o:=fun e n=>hidT_get e n
    have noA:∀ {b:Addr} {o:Obj} {es:Array DictEntry} {ep:Nat},s₁.heap.get? b=some o→o.data=.dict es ep→H b=none:=fun {b o es ep} e d=>by
      cases q:H b with
      | none=>rfl
      | some u =>
        have e':b=a:=hA b (by rw [q];simp)
        subst e'
        rw [ha] at e;cases e
        have d':Data.seq vs.toArray _=Data.dict es ep:=d
        cases d'
    have nsK:∀ {b:Addr} {m:Str→Option Value},s₁.heap.Ns b m→(hidT s₁.heap H).Ns b m:=fun {b m} ⟨o,es,ep,e,d,r⟩=>⟨o,es,ep,base_of e (noA e d),d,r⟩
    have hKb:K.In (hidT s₁.heap H):=fun b o e=>base_of (KX b o e) (by
      cases q:H b with
      | none=>rfl
      | some u =>
        have e':b=a:=hA b (by rw [q];simp)
        subst e'
        rw [hK (by rw [q];simp)] at e;cases e)
    have hM:Mod K mg (hidT s₁.heap H):=⟨hKb,nsK hns,⟨mb,nsK hb,hbb⟩,let ⟨mc,h1,h2⟩:=hlim;⟨mc,nsK h1,h2⟩⟩
    have e0:Env0 P w K mg (hidT s₁.heap H) callerA [] s₁ H:=⟨rfl,hM,fun b o e=>of_hidT e,Nat.le_of_eq (hidT_size _ _),trivial,fun b hb=>absurd (show b∈([]:List Addr) from hb) (by simp),hok,.of_eq hg⟩
    refine codeAny_mono ((F _ hKb (nsK hns)).run callerA [] s₁ H ⟨[.ref a],[]⟩ [.ref a] [.ref a] _ _ hr e0 (hbind s₁ (.ref a)) (.cons rfl .nil) (hsp H hO hS)) fun r s' h=>?_
    cases r with
    | error e=>exact (hCX H e s' h).elim
    | ok fl =>
      cases fl with
      | next=>exact False.elim h
      | brk=>exact False.elim h
      | cont=>exact False.elim h
      | ret u =>
        obtain ⟨v,H',os,bare,un,hok',r',q⟩:=h
        have q':v=.bl true:=q
        subst q'
        obtain rfl:u=Value.bool true:=r'
        refine ⟨rfl,OldK.of_keep fun b o e=>?_,os,bare⟩
        cases q:H b with
        | none=>exact un.keep b o e q (by intro z;exact absurd (show b∈([]:List Addr) from z) (by simp)) (by simp)
        | some u =>
          rcases hO b with z | ⟨ob,xs,z⟩
          · rw [q] at z;cases z
          · have z2:=un.frzs b ob _ z
            obtain ⟨e1,_⟩:=hok b _ z
            obtain ⟨e2,_⟩:=hok' b _ z2
            rw [e] at e1;cases e1
            exact e2
  cases hk:K.lookup a with
  | some o =>
    -- the script is one of the module's own objects
    have e:=KX a o hk
    rw [ha] at e
    cases e
    refine core (fun _=>none) (fun _=>.inl rfl) (.inr ⟨_,vs.toArray,_,hk,rfl,rfl,rfl,by rw [List.size_toArray,lenV];exact hl,by simpa using rv⟩) (fun b u z=>by have z':(none:Option HO)=some u:=z;cases z') (fun b z=>absurd rfl z) fun z=>absurd rfl z
  | none =>
    refine core (fun b=>if b=a then some (.frz { cls:=.type "list",data:=.seq vs.toArray } (.lst (ns.map V.int))) else none) (fun b=>?_) (.inl (.inr ⟨{ cls:=.type "list",data:=.seq vs.toArray },if_pos rfl⟩)) (fun b u z=>?_) (fun b z=>?_) fun _=>hk
    · by_cases hb:b=a
      · exact .inr ⟨_,_,if_pos hb⟩
      · exact .inl (if_neg hb)
    · by_cases hb:b=a
      · have z':=(if_pos hb).symm.trans z
        cases z'
        subst hb
        exact ⟨ha,by rw [List.length_map];exact hl,vs,_,rv,ha⟩
      · have z':=(if_neg hb).symm.trans z
        cases z'
    · by_cases hb:b=a
      · exact hb
      · exact absurd (if_neg hb) z
end L2
namespace L2
open PySem PySem.Spec PyProof.Rows
theorem walk_of {l:PySem.W.OpenLaw} {n k:Nat} {q:Program} {loose:List Str} {XP:(Str→Option Value)→Heap→Prop} {YP:World→Heap→Prop} {d:DefRec} {K:Params→PySem.W.Frag} {CX:World→CXT} {sp:World→Sp} {x:Str}
    (hn:l.most=some n) (hn2:n≤sizeLine) (hdf:d.params.defaults=[]) (hr:Room k callerA)
    (hY:∀ (w:World) (h:Heap),YP w h→(K w.params).In h)
    (F : ∀ (w:World) (mg:Str→Option Value) (fa:Addr) (h:Heap),(K w.params).In h→h.Ns mainGlobals mg→mg d.name=some (.ref fa) →
      ∃ fd:FuncData,(∀ (s:Shared) (u:Value),BindsTo s fd ⟨[u],[]⟩ [(x,u)]) ∧
        ∀ base:Heap,(K w.params).In base→base.Ns mainGlobals mg→FnOk l.prog w (K w.params) mg base (CX w) k fa fd [x] (sp w))
    (hsp:∀ (w:World) (H:Hp) (a:Addr) (ns:List Int),ns.length≤n→Only H→SqL (K w.params) H a (ns.map V.int)→sp w [.ref a] H (fun v _=>v=.bl true) fun _ _ _=>False)
    (hCX:∀ (w:World) (H:Hp) (s:Shared) (e:Value) (s':Shared),CX w [] H s (fun _ _ _=>False) e s'→False) :
    PySem.W.WalkO q loose XP YP l.row.toRowW d [] (fun f vs=>PySem.call f vs):=by
  refine Att.attach_call hn hdf fun w s₀ s₁ mg mb fa o pm cd doc a vs ns G Y ho hd hcd hmg hobj hints hlen hg=>?_
  have KX:=hY w _ Y
  obtain ⟨fd,hb,hF⟩:=F w mg fa _ KX G.T.g hmg
  exact law_call KX G.T.g G.T.b G.T.builtins G.T.nolimit hg hobj hints (Nat.le_trans hlen hn2) hr hF hb (fun H hO hS=>hsp w H a ns hlen hO hS) fun H e s'=>hCX w H s₁ e s'
end L2
namespace L2
open PySem PySem.Spec PyProof.Rows
def defArgs (s:Stmt):Arguments:=match s with
  | .FunctionDef _ a _ _ _ _ _ _ _ _=>a
  | _=>{ posonlyargs:=[],args:=[],vararg:=none,kwonlyargs:=[],kw_defaults:=[],kwarg:=none,defaults:=[] }
def defBody (s:Stmt):List Stmt:=match s with
  | .FunctionDef _ _ b _ _ _ _ _ _ _=>b
  | _=>[]
def defScope (s:Stmt):Scope:=match s with
  | .FunctionDef _ _ _ _ _ _ sc _ _ _=>sc
  | _=>{ kind:=.function,names:=[],isGenerator:=false,isCoroutine:=false }
abbrev CX0:CXT:=fun _ _ _ _ _ _=>False
abbrev E0:XK:=fun _ _ _=>False
theorem pass0 {X:Cx}:Passes CX0 X E0:=fun _ _ _ _ _ _ _ h=>h.elim
structure Fun (K:PySem.W.Frag) (x qual:Str) (st:Stmt) (f:Addr) (fd:FuncData):Prop where
  ex : ∃ (oc:Value) (od:Option Addr) (kV doc pm:Value) (an:Option Addr) (cdv ct:Value) (osl:Array (Option Value)),
    fd=PySem.W.fnOf x qual (defArgs st) (defBody st) (defScope st) .none kV doc pm an cdv ct∧K.lookup f=some ⟨oc,od,.func fd,osl⟩∧PySem.W.codeIn K cdv qual=true
  kp:PySem.W.keepIn K (.ref f)=true
section
variable {P:Program} {w:World} {K:PySem.W.Frag} {mg:Str→Option Value} {base:Heap}
theorem Fun.ok {x qual:Str} {st:Stmt} {f:Addr} {fd:FuncData} {N ps:List Str} {k:Nat} {sp:Sp} (F:Fun K x qual st f fd) (S:FnScope N ps (defScope st)) (len:∀ vs H Q E,sp vs H Q E→vs.length=ps.length)
    (hbody:∀ (cdv:Value) (A:Around) (outer:List Env) (s:Shared) (H:Hp) (vs:List V) (Q:VK) (E:XK),Room k (A.deeper (envOfC qual (defScope st) s.heap.objs.size f cdv))→sp vs H Q E →
      ∃ t,PSs (cxOf CX0 P w K mg base N qual (defScope st) f cdv A outer s H E).nox (defBody st) t∧t { nx:=fun _ H'=>Q .non H',rt:=Q } (start N vs) H):FnOk P w K mg base CX0 (k+1) f fd ps sp:=by
  obtain ⟨oc,od,kV,doc,pm,an,cdv,ct,osl,rfl,lk,hcd⟩:=F.ex
  refine fn_of lk hcd S len fun A outer s H vs Q E hr hsp=>?_
  obtain ⟨t,h,q⟩:=hbody cdv A outer s H vs Q E hr hsp
  exact ⟨t,h.nox,q⟩
theorem Fun.binds {x qual:Str} {st:Stmt} {f:Addr} {fd:FuncData} {ps:List Str} (F:Fun K x qual st f fd)
    (h:∀ (kV doc pm:Value) (an:Option Addr) (cdv ct:Value) (us:List Value),us.length=ps.length→bindArgs (PySem.W.fnOf x qual (defArgs st) (defBody st) (defScope st) .none kV doc pm an cdv ct) ⟨us,[]⟩=pure (ps.zip us)):Binds K fd ps []:=by
  obtain ⟨oc,od,kV,doc,pm,an,cdv,ct,osl,rfl,lk,hcd⟩:=F.ex
  exact .all (h kV doc pm an cdv ct)
theorem fun_mk {x qual:Str} {st:Stmt} {f:Addr} {oc:Value} {od an:Option Addr} {osl:Array (Option Value)} {kV doc pm cdv ct:Value} (l:K.lookup f=some ⟨oc,od,.func (PySem.W.fnOf x qual (defArgs st) (defBody st) (defScope st) .none kV doc pm an cdv ct),osl⟩)
    (c:PySem.W.codeIn K cdv qual=true) (k:PySem.W.keepIn K (.ref f)=true):Fun K x qual st f (PySem.W.fnOf x qual (defArgs st) (defBody st) (defScope st) .none kV doc pm an cdv ct):=⟨⟨oc,od,kV,doc,pm,an,cdv,ct,osl,rfl,l,c⟩,k⟩
end
section
variable {X:Cx}
theorem pv (i:Nat) {x:Str} {pos:Pos} (hN:X.N[i]? = some x:=by rfl) (hv:Vis X.env.scope x:=by first | exact Or.inl rfl | exact Or.inr (Or.inl rfl) | exact Or.inr (Or.inr rfl)) (hd:(x == ("__debug__" : Str))=false:=by decide)
    (hcd:(x == ("__classdict__" : Str))=false:=by decide):PE X (.Name x pos) (tVar i):=pe_var hN hv hd hcd
end
theorem iteF {A B:Prop} (h:B):if false=true then A else B:=by
  rw [if_neg Bool.false_ne_true]
  exact h
theorem iteT {A B:Prop} (h:A):if true=true then A else B:=by
  rw [if_pos rfl]
  exact h
theorem ite2 {c A B:Prop} [Decidable c] (h1:c→A) (h2:¬ c→B):if c then A else B:=by
  by_cases h:c
  · rw [if_pos h]
    exact h1 h
  · rw [if_neg h]
    exact h2 h
def Same (H H':Hp):Prop:=∀ b o,H b=some o→H' b=some o
theorem Same.refl (H:Hp):Same H H:=fun _ _ h=>h
theorem Same.trans {H H1 H2:Hp} (a:Same H H1) (b:Same H1 H2):Same H H2:=fun c o h=>b c o (a c o h)
theorem Same.free {H H':Hp} (e:Same H H') {l:Addr} (h:H' l=Option.none):H l=Option.none:=by
  cases q:H l with
  | none=>rfl
  | some o =>
    rw [e l o q] at h
    cases h
theorem Same.seq {K:PySem.W.Frag} {H H':Hp} {a:Addr} {xs:List V} (e:Same H H') (h:SqL K H a xs):SqL K H' a xs:=by
  rcases h with (h | ⟨o,h⟩) | h
  · exact .inl (.inl (e _ _ h))
  · exact .inl (.inr ⟨o,e _ _ h⟩)
  · exact .inr h
section
variable {X:Cx}
end
section
variable {κ:Type} [DecidableEq κ]
end
end L2
namespace L2
open PySem PySem.Spec PyProof.Rows
theorem closure_go {env:Env} (f:Str × NameKind→List (Str × Addr)→Sem (ForInStep (List (Str × Addr))))
    (hf:∀ name kind cs,f (name,kind) cs=if kind == .free then (do let a ← cellOf env name;pure (.yield ((name,a) :: cs))) else pure (.yield cs)) :
    ∀ (names:List (Str × NameKind)) (acc:List (Str × Addr)),(∀ p∈names,p.2=.free→∃ c,env.cells.lookup p.1=some c) →
      (∀ x c,acc.lookup x=some c→env.cells.lookup x=some c) →
      ∃ cl,(forIn names acc f:Sem _)=pure cl∧(∀ x c,cl.lookup x=some c→env.cells.lookup x=some c)∧(∀ p∈names,p.2=.free→(cl.lookup p.1).isSome=true)∧(∀ x,(acc.lookup x).isSome=true→(cl.lookup x).isSome=true)
  | [],acc,_,ha=>⟨acc,by rw [List.forIn_nil],ha,(fun _ h=>by cases h),fun _ h=>h⟩
  | (n,k) :: r,acc,hn,ha=>by
    rw [List.forIn_cons,hf]
    by_cases hk:k=.free
    · subst hk
      obtain ⟨c,hc⟩:=hn (n,.free) List.mem_cons_self rfl
      obtain ⟨cl,e,h1,h2,h3⟩:=closure_go f hf r ((n,c) :: acc) (fun p hp=>hn p (List.mem_cons_of_mem _ hp)) (fun x d hx=>by
        rw [List.lookup_cons] at hx
        cases hb:x == n with
        | true=>rw [hb] at hx;cases hx;rw [beq_iff_eq.mp hb];exact hc
        | false=>rw [hb] at hx;exact ha x d hx)
      refine ⟨cl,?_,h1,fun p hp hpf=>?_,fun x hx=>h3 x ?_⟩
      · have ec:cellOf env n=pure c:=by unfold cellOf;rw [hc]
        rw [if_pos (by rfl),ec]
        simpa using e
      · rcases List.mem_cons.mp hp with z | z
        · subst z;exact h3 n (by rw [List.lookup_cons];simp)
        · exact h2 p z hpf
      · rw [List.lookup_cons]
        cases hb:x == n with
        | true=>rfl
        | false=>exact hx
    · obtain ⟨cl,e,h1,h2,h3⟩:=closure_go f hf r acc (fun p hp=>hn p (List.mem_cons_of_mem _ hp)) ha
      refine ⟨cl,?_,h1,fun p hp hpf=>?_,h3⟩
      · have hb:(k == NameKind.free)=false:=by simpa using hk
        rw [hb]
        simpa using e
      · rcases List.mem_cons.mp hp with z | z
        · subst z;exact absurd hpf hk
        · exact h2 p z hpf
theorem closure_ok {env:Env} {scope:Scope} (h:∀ p∈scope.names,p.2=.free→∃ c,env.cells.lookup p.1=some c) :
    ∃ cl,closureFor scope env=pure cl∧(∀ x c,cl.lookup x=some c→env.cells.lookup x=some c)∧(∀ p∈scope.names,p.2=.free→(cl.lookup p.1).isSome=true):=by
  unfold closureFor
  obtain ⟨cl,e,h1,h2,_⟩:=closure_go (env:=env) (fun x r=>match x,r with
    | (name,kind),cs=>if kind == .free then (do let a ← cellOf env name;pure (.yield ((name,a) :: cs))) else pure (.yield cs)) (fun _ _ _=>rfl) scope.names [] h (fun _ _ z=>nomatch z)
  refine ⟨cl,?_,h1,h2⟩
  have e':=congrArg (fun t:Sem (List (Str × Addr))=>t >>= fun cs=>pure cs) e
  first
    | simpa using e'
    | (simp only [pure_bind,bind_pure] at e' ⊢;exact e')
theorem cells_inj:∀ (names:List (Str × NameKind)) (n:Nat) (acc:List (Str × Addr)),(∀ (x y:Str) (c:Nat),acc.lookup x=some c→acc.lookup y=some c→x=y)→(∀ (x:Str) (c:Nat),acc.lookup x=some c→c < n) →
    (∀ (x y:Str) (c:Nat),(cellsFrom n names acc).lookup x=some c→(cellsFrom n names acc).lookup y=some c→x=y)∧(∀ (x:Str) (c:Nat),(cellsFrom n names acc).lookup x=some c→acc.lookup x=some c∨n≤c)
  | [],n,acc,h,hl=>⟨h,fun _ _ z=>.inl z⟩
  | (nm,k) :: r,n,acc,h,hl=>by
    unfold cellsFrom
    split
    · have lt:∀ (x:Str) (c:Nat),List.lookup x ((nm,n) :: acc)=some c→(x=nm∧c=n)∨(x≠nm∧acc.lookup x=some c):=fun x c e=>by
        rw [List.lookup_cons] at e
        cases hb:x == nm with
        | true=>rw [hb] at e;cases e;exact .inl ⟨beq_iff_eq.mp hb,rfl⟩
        | false=>rw [hb] at e;exact .inr ⟨by simpa using hb,e⟩
      obtain ⟨a,b⟩:=cells_inj r (n+1) ((nm,n) :: acc) (fun x y c e1 e2=>by
        rcases lt x c e1 with ⟨z1,z2⟩ | ⟨z1,z2⟩ <;> rcases lt y c e2 with ⟨w1,w2⟩ | ⟨w1,w2⟩
        · rw [z1,w1]
        · have:=hl y c w2;omega
        · have:=hl x c z2;omega
        · exact h x y c z2 w2) (fun x c e=>by
        rcases lt x c e with ⟨z1,z2⟩ | ⟨z1,z2⟩
        · omega
        · have:=hl x c z2;omega)
      refine ⟨a,fun x c e=>?_⟩
      rcases b x c e with z | z
      · rcases lt x c z with ⟨z1,z2⟩ | ⟨z1,z2⟩
        · exact .inr (by omega)
        · exact .inl z2
      · exact .inr (by omega)
    · exact cells_inj r n acc h hl
theorem cells_out {x:Str}:∀ (names:List (Str × NameKind)) (n:Nat) (acc:List (Str × Addr)),(∀ p∈names,p.1=x→p.2≠.cell)→(cellsFrom n names acc).lookup x=acc.lookup x
  | [],_,_,_=>rfl
  | (nm,k) :: r,n,acc,h=>by
    unfold cellsFrom
    split
    · rename_i hk
      have hk':k=.cell:=by simpa using hk
      have ne:x≠nm:=fun e=>h (nm,k) List.mem_cons_self e.symm hk'
      rw [cells_out r (n+1) ((nm,n) :: acc) fun p hp=>h p (List.mem_cons_of_mem _ hp),List.lookup_cons]
      have:(x == nm)=false:=by simpa using ne
      rw [this]
    · exact cells_out r n acc fun p hp=>h p (List.mem_cons_of_mem _ hp)
theorem own_keep {x:Str} {c:Nat}:∀ (names:List (Str × NameKind)) (n:Nat) (acc:List (Str × Addr)) (d:Nat),acc.lookup x=some d→d≤n→(cellsFrom n names acc).lookup x=some c→d≤c
  | [],_,_,_,h,_,e=>by
    have e':_=some c:=e
    unfold cellsFrom at e'
    rw [h] at e';cases e';exact Nat.le_refl _
  | (nm,k) :: r,n,acc,d,h,hd,e=>by
    unfold cellsFrom at e
    split at e
    · cases hb:x == nm with
      | true =>
        have:=own_keep r (n+1) ((nm,n) :: acc) n (by rw [List.lookup_cons,hb]) (Nat.le_succ _) e
        omega
      | false=>exact own_keep r (n+1) ((nm,n) :: acc) d (by rw [List.lookup_cons,hb];exact h) (Nat.le_succ_of_le hd) e
    · exact own_keep r n acc d h hd e
theorem own_new {x:Str} {c:Nat}:∀ (names:List (Str × NameKind)) (n:Nat) (acc:List (Str × Addr)),(∀ (y:Str) (d:Nat),acc.lookup y=some d→d < n)→names.lookup x=some .cell→(cellsFrom n names acc).lookup x=some c→n≤c
  | [],_,_,_,h,_=>by cases h
  | (nm,k) :: r,n,acc,ha,h,e=>by
    rw [List.lookup_cons] at h
    unfold cellsFrom at e
    cases hb:x == nm with
    | true =>
      rw [hb] at h
      cases h
      rw [if_pos (by rfl)] at e
      by_cases hr:r.lookup x=some .cell
      · have:=own_new r (n+1) ((nm,n) :: acc) (fun y d z=>by
          rw [List.lookup_cons] at z
          cases hy:y == nm with
          | true=>rw [hy] at z;cases z;omega
          | false=>rw [hy] at z;have:=ha y d z;omega) hr e
        omega
      · exact own_keep r (n+1) ((nm,n) :: acc) n (by rw [List.lookup_cons,hb]) (Nat.le_succ _) e
    | false =>
      rw [hb] at h
      split at e
      · have:=own_new r (n+1) ((nm,n) :: acc) (fun y d z=>by
          rw [List.lookup_cons] at z
          cases hy:y == nm with
          | true=>rw [hy] at z;cases z;omega
          | false=>rw [hy] at z;have:=ha y d z;omega) h e
        omega
      · exact own_new r n acc ha h e
theorem cells_are:∀ (names:List (Str × NameKind)) (h:Heap) (acc:List (Str × Addr)) (x:Str) (c:Addr),(∀ x c,acc.lookup x=some c→∃ v,h.IsCell c v)→(cellsFrom h.objs.size names acc).lookup x=some c→∃ v,(pushCells h names).IsCell c v
  | [],h,acc,x,c,ha,e=>ha x c e
  | (nm,k) :: r,h,acc,x,c,ha,e=>by
    unfold cellsFrom at e
    unfold pushCells
    split at e
    · rename_i hk
      rw [if_pos hk]
      refine cells_are r (h.push { cls:=.type "cell",data:=.cell none }) ((nm,h.objs.size) :: acc) x c (fun y d z=>?_) (by rw [Heap.size_push];exact e)
      rw [List.lookup_cons] at z
      cases hb:y == nm with
      | true=>rw [hb] at z;cases z;exact ⟨none,_,Heap.get?_push_size _ rfl,rfl⟩
      | false =>
        rw [hb] at z
        obtain ⟨v,q⟩:=ha y d z
        exact ⟨v,q.keeps fun b o e=>Heap.get?_push_of_some _ e⟩
    · rename_i hk
      rw [if_neg hk]
      exact cells_are r h acc x c ha e
end L2
namespace L2
open PySem PySem.Spec PyProof.Rows
section
variable {prog:Program} {w:World} {A:Around} {E:Value→Shared→Prop} {R:Result→Shared→Prop} {s:Shared}
theorem compLoop_go {elt target iter:Expr} {ifs:List Expr} {scope:Scope} {pos:Pos} {it acc:Value} {env:Env} (I:Nat→Shared→Prop)
    (turn:∀ n s,I n s→wpAny (model prog w) A (pyNext it) (fun r s₁=>match r with
      | none=>R (.ok .next) s₁
      | some v=>wpAny (model prog w) A (letOwnedTupleGo target it v) (fun _ s₁=>wpAny (model prog w) A (assign target env v) (fun _ s₂ =>
          wpAny (model prog w) A (forIn ifs true fun c r=>if r=true then do let ok ← isTrue c env (eval c env);pure (ForInStep.yield ok) else pure (ForInStep.yield r)) (fun ok s₃ =>
            if ok=true then wpAny (model prog w) A (eval elt env) (fun x s₄ =>
              wpAny (model prog w) A (call (.builtin "list.append") [acc,x]) (fun _ s₅=>∃ m,m < n∧I m s₅) (fun _ _=>False) s₄) (fun _ _=>False) s₃
            else ∃ m,m < n∧I m s₃) (fun _ _=>False) s₂) (fun _ _=>False) s₁) (fun _ _=>False) s₁) (fun _ _=>False) s)
    (n:Nat) (h:I n s) :
    codeAny (model prog w) A (.compLoop (.ListComp elt [⟨target,iter,ifs,0⟩] scope pos) 0 it acc env) R s:=by
  refine codeAny_loop rfl I (fun n s hI=>?_) n h
  show wpAny _ A ((compTurn (.ListComp elt [⟨target,iter,ifs,0⟩] scope pos) 0 it acc env).onRaise (fun x=>do noteFrame x env;theTreesLotGoes x)) _ _ s
  refine wpAny_noted ?_
  rw [compTurn_list]
  refine wpAny_bind (wpAny_standAt (wpAny_bind (wpAny_mono (turn n s hI) (fun r s₁ h₁=>?_) fun _ _ h'=>h'.elim)))
  cases r with
  | none=>exact wpAny_pure h₁
  | some v =>
    refine wpAny_bind (wpAny_mono h₁ (fun _ s₁ h₁=>?_) fun _ _ h'=>h'.elim)
    refine wpAny_bind (wpAny_mono h₁ (fun _ s₂ h₂=>wpAny_bind (wpAny_mono h₂ (fun ok s₃ h₃=>?_) fun _ _ h'=>h'.elim)) fun _ _ h'=>h'.elim)
    cases ok with
    | false=>exact wpAny_pure ⟨rfl,h₃⟩
    | true =>
      exact wpAny_bind (wpAny_bind (wpAny_mono h₃ (fun x s₄ h₄=>wpAny_bind (wpAny_mono h₄ (fun _ s₅ h₅=>wpAny_pure (wpAny_pure ⟨rfl,h₅⟩)) fun _ _ h'=>h'.elim)) fun _ _ h'=>h'.elim))
end
abbrev compCx (X:Cx) (scope:Scope) (N':List Str) (cells:List (Str × Addr)) (C:Addr) (s₀:Shared) (H₀:Hp) (ex:List Addr) (pn:List (Addr × Obj)):Cx where
  prog:=X.prog
  w:=X.w
  K:=X.K
  mg:=X.mg
  base:=X.base
  A:=X.A
  N:=N'
  s₀:=s₀
  H₀:=H₀
  env:={ scope:=relabel scope X.env,locals:=C,globals:=X.env.globals,cells:=cells,qual:=X.env.qual,func:=none,code:=X.env.code,frame:=X.env.frame,builtins:=X.env.builtins }
  outer:=X.stack
  stack:=X.stack
  ex:=ex
  fn:=fun x=>scope.names.lookup x == some .cell
  calm:=X.calm
  pn:=pn
  xe:=fun _ _=>False
def cst (ix:List (Option Nat)) (σ:St):St:=ix.map fun o=>o.bind fun j=>(σ[j]?).bind id
def compChk (X:Cx) (scope:Scope) (N':List Str) (ix:List (Option Nat)):Bool :=
  scope.names.all (fun p=>scope.names.lookup p.1 == some p.2) &&
  scope.names.all (fun p=>!(p.2 == .free) || X.env.scope.names.lookup p.1 == some .cell || X.env.scope.names.lookup p.1 == some .free) &&
  ix.length == N'.length &&
  (N'.zip ix).all (fun p=>match p.2 with | none=>true | some j=>X.N[j]? == some p.1 && scope.names.lookup p.1 == some .free) && scope.kind == .function
def PTs (X:Cx) (ifs:List Expr) (t:TT):Prop :=
  ∀ (pins:List (Addr × Obj)) (s:Shared) (σ:St) (H:Hp) (Q:Bool→Hp→Prop),Inv X pins σ H s→t σ H Q →
    wpAny (model X.prog X.w) X.A (forIn ifs true fun c r=>if r=true then do let ok ← isTrue c X.env (eval c X.env);pure (ForInStep.yield ok) else pure (ForInStep.yield r)) (TP X pins σ Q) X.xe s
def tAll:TT:=fun _ H Q=>Q true H
theorem pts_nil {X:Cx}:PTs X [] tAll:=fun _ _ _ H _ I h=>wpAny_tests_nil ⟨H,I,h⟩
def tComp (ix:List (Option Nat)) (wi:TI) (g:TG) (tc:TT) (te:TE):TE:=fun σ H Q=>wi σ H fun J H1=>∃ W:Nat→Nat→List V→St→Hp→Prop,(∃ m,W 0 m [] (cst ix σ) H1)∧∀ i m ys τ H,W i m ys τ H →
  (J.stop i H∧∀ D,H D=none→Q (.ref D) (upd H D (.lst ys))) ∨
  (J.go i H∧ys.length < sizeLine∧∃ N:List V→St→Hp→Prop,(∀ ys' τ' H',N ys' τ' H'→∃ m',m' < m∧W (i+1) m' ys' τ' H') ∧
    ∀ x H',J.yld i H x H'→g x τ H' fun τ2 H2=>tc τ2 H2 fun b H3=>if b=true then te τ2 H3 (fun y H4=>N (ys++[y]) τ2 H4) else N ys τ2 H3)
def rlF (env:Env) (p:Str × NameKind):Str × NameKind:=if (p.2 == NameKind.free && env.scope.kind == .function && env.kindOf p.1 == some .cell)=true then (p.1,NameKind.cell) else (p.1,p.2)
theorem rlF_key (env:Env) (p:Str × NameKind):(rlF env p).1=p.1:=by unfold rlF;split <;> rfl
theorem lookup_key {f:Str × NameKind→Str × NameKind} (hf:∀ p,(f p).1=p.1) (x:Str):∀ names:List (Str × NameKind),(names.map f).lookup x=(names.lookup x).map fun k=>(f (x,k)).2
  | []=>rfl
  | (n,k) :: r=>by
    rw [List.map_cons]
    obtain ⟨a,b,e⟩:∃ a b,f (n,k)=(a,b):=⟨_,_,rfl⟩
    have ha:a=n:=by have:=hf (n,k);rw [e] at this;exact this
    subst ha
    rw [e,List.lookup_cons,List.lookup_cons,lookup_key hf x r]
    cases hb:x == a with
    | true =>
      have:x=a:=beq_iff_eq.mp hb
      subst this
      show some b=some (f (x,k)).2
      rw [e]
    | false=>rfl
theorem relabel_lookup (scope:Scope) (env:Env) (x:Str):(relabel scope env).names.lookup x=(scope.names.lookup x).map fun k=>(rlF env (x,k)).2:=lookup_key (rlF_key env) x scope.names
theorem relabel_look {scope:Scope} {env:Env} {x:Str} (h:scope.names.lookup x=some .free):(relabel scope env).names.lookup x=some .cell∨(relabel scope env).names.lookup x=some .free:=by
  rw [relabel_lookup,h]
  show some (rlF env (x,.free)).2=_∨some (rlF env (x,.free)).2=_
  unfold rlF
  by_cases hc:((x,NameKind.free).snd == NameKind.free && env.scope.kind == ScopeKind.function && env.kindOf (x,NameKind.free).fst == some NameKind.cell)=true
  · rw [if_pos hc];exact .inl rfl
  · rw [if_neg hc];exact .inr rfl
theorem relabel_back {scope:Scope} {env:Env} {x:Str} (h:(relabel scope env).names.lookup x=some .cell∨(relabel scope env).names.lookup x=some .free):scope.names.lookup x=some .cell∨scope.names.lookup x=some .free:=by
  rw [relabel_lookup] at h
  cases e:scope.names.lookup x with
  | none=>rw [e] at h;rcases h with h | h <;> cases h
  | some k =>
    rw [e] at h
    have h':(rlF env (x,k)).2=.cell∨(rlF env (x,k)).2=.free:=by
      rcases h with h | h
      · exact .inl (Option.some.inj h)
      · exact .inr (Option.some.inj h)
    unfold rlF at h'
    split at h'
    · rename_i hc
      have:k=.free:=by
        have:=(Bool.and_eq_true_iff.mp (Bool.and_eq_true_iff.mp hc).1).1
        simpa using this
      exact .inr (by rw [this])
    · rcases h' with z | z
      · have z':k=.cell:=z
        exact .inl (by rw [z'])
      · have z':k=.free:=z
        exact .inr (by rw [z'])
end L2
namespace L2
open PySem PySem.Spec PyProof.Rows
abbrev lobj (its:List Value) (n:Nat):Obj:={ cls:=.type "list",data:=.seq its.toArray n }
section
variable {X:Cx} {pins:List (Addr × Obj)} {σ:St} {H:Hp} {s:Shared}
theorem HOk.add {P:Program} {w:World} {h:Heap} {D:Addr} {o:HO} (x:HOk P w H h) (hn:H D=none) (new:ObjOk P w (upd H D o) h D o):HOk P w (upd H D o) h:=fun b u e=>by
  by_cases hb:b=D
  · subst hb;rw [upd_same] at e;cases e;exact new
  · rw [upd_ne hb] at e
    exact (x b u e).stay (fun c v _ q=>q) (fun c q=>by rw [upd_ne (ne_of_none q hn)];exact q) fun c xs q=>by rw [upd_ne (ne_of_none q hn)];exact q
theorem HOk.but {P:Program} {w:World} {h h':Heap} {C:Addr} (x:HOk P w H h) (hn:H C=none) (sb:Heap.SameBut C h h'):HOk P w H h':=fun b u e=>by
  refine (x b u e).stay (fun c v hc q=>(sb.2 c ?_).trans q) (fun _ q=>q) fun _ _ q=>q
  rintro rfl
  rcases hc with rfl | hc
  · rw [hn] at e;cases e
  · rw [hn] at hc;cases hc
end
theorem comp_inv {X:Cx} {pins:List (Addr × Obj)} {σ:St} {H2:Hp} {s2:Shared} {scope:Scope} {N':List Str} {ix:List (Option Nat)} {cl:List (Str × Addr)} {fp:List Addr}
    (c1:∀ p∈scope.names,scope.names.lookup p.1=some p.2) (c3:ix.length=N'.length)
    (c2:∀ p∈scope.names,p.2=.free→X.env.scope.names.lookup p.1=some .cell∨X.env.scope.names.lookup p.1=some .free)
    (c4:∀ (i:Nat) (x:Str) (j:Nat),N'[i]? = some x→ix[i]? = some (some j)→X.N[j]? = some x∧scope.names.lookup x=some .free) (ck:scope.kind=.function)
    (cl1:∀ x c,cl.lookup x=some c→X.env.cells.lookup x=some c) (cl2:∀ p∈scope.names,p.2=.free→(cl.lookup p.1).isSome=true)
    (I2:Inv X pins σ H2 s2) (f2:∀ b∈fp,FpOk X pins H2 b) (o2:∀ b∈fp,∃ o,s2.heap.get? b=some o∧∀ v,o.data≠.cell v) :
    Inv (compCx X scope N' (cellsFrom (s2.heap.objs.size+2) scope.names cl) (s2.heap.objs.size+1) s2 H2 fp []) [(s2.heap.objs.size,lobj [] 0)] (cst ix σ) H2
      { s2 with heap:=pushCells ((s2.heap.push (lobj [] 0)).push { cls:=.type "dict",data:=.dict #[] }) scope.names }:=by
  have sz3:(s2.heap.push (lobj [] 0)).objs.size=s2.heap.objs.size+1:=Heap.size_push ..
  have sz4:((s2.heap.push (lobj [] 0)).push { cls:=.type "dict",data:=.dict #[] }).objs.size=s2.heap.objs.size+2:=by rw [Heap.size_push,sz3]
  have keep:∀ b o,s2.heap.get? b=some o→(pushCells ((s2.heap.push (lobj [] 0)).push { cls:=.type "dict",data:=.dict #[] }) scope.names).get? b=some o:=fun b o e =>
    pushCells_keeps _ _ b o (Heap.get?_push_of_some _ (Heap.get?_push_of_some _ e))
  have cllt:∀ (x:Str) (c:Nat),cl.lookup x=some c→c < s2.heap.objs.size:=fun x c e=>by
    obtain ⟨v,q⟩:=I2.cell x c (cl1 x c e)
    exact q.lt
  obtain ⟨ci,cc⟩:=cells_inj scope.names (s2.heap.objs.size+2) cl (fun x y c e1 e2=>I2.ok.inj x y c (cl1 x c e1) (cl1 y c e2)) (fun x c e=>by have:=cllt x c e;omega)
  have cell:∀ x c,(cellsFrom (s2.heap.objs.size+2) scope.names cl).lookup x=some c→∃ v,(pushCells ((s2.heap.push (lobj [] 0)).push { cls:=.type "dict",data:=.dict #[] }) scope.names).IsCell c v:=fun x c e=>by
    refine cells_are scope.names _ cl x c (fun y d z=>?_) (by rw [sz4];exact e)
    obtain ⟨v,q⟩:=I2.cell y d (cl1 y d z)
    exact ⟨v,q.keeps fun b o e=>Heap.get?_push_of_some _ (Heap.get?_push_of_some _ e)⟩
  have lt2:∀ (b:Nat),b∈fp→b < s2.heap.objs.size:=fun b hb=>by
    obtain ⟨o,e,_⟩:=o2 b hb
    exact Heap.lt_size e
  refine ⟨⟨I2.ok.mod,ck,I2.ok.glob,I2.ok.blt,Nat.le_succ _,ci,fun x hx=>?_,fun x c hf e=>?_,I2.ok.hd,I2.ok.frames,.inl rfl,fun b hb=>⟨?_,fun x c e=>?_⟩,I2.bs,Nat.le_trans I2.ok.bsz I2.sz,fun b o e hb=>?_,fun b hb z=>?_,I2.stack,I2.stkFree⟩,
    rfl,I2.bare,Un.kept keep,⟨fun _=>none,?_,fun i x v e1 e2 e3=>?_⟩,cell,?_,fun x c e=>?_,fun p hp=>?_,I2.hok.kept keep,?_⟩
  · -- has
    have hx':=relabel_back (scope:=scope) (env:=X.env) (x:=x) hx
    rcases hx' with z | z
    · exact Option.isSome_iff_exists.mp (PySem.W.cellsFrom_some scope.names _ cl (.inl z))
    · exact Option.isSome_iff_exists.mp (PySem.W.cellsFrom_some scope.names _ cl (.inr (cl2 (x,.free) (PySem.mem_of_lookup z) rfl)))
  · -- cab
    have hf':scope.names.lookup x=some .cell:=by simpa using hf
    have:=own_new scope.names (s2.heap.objs.size+2) cl (fun x c e=>by have:=cllt x c e;omega) hf' e
    show s2.heap.objs.size≤c
    omega
  · -- ex: not the frame
    exact Nat.ne_of_lt (Nat.lt_succ_of_lt (lt2 b hb))
  · -- ex: no cell
    rcases cc x c e with z | z
    · exact (f2 b hb).2.2.2.2.1 x c (cl1 x c z)
    · exact Nat.ne_of_gt (Nat.lt_of_lt_of_le (lt2 b hb) (Nat.le_trans (Nat.le_add_right _ 2) z))
  · -- base objects are not iterators
    rcases (f2 b hb).2.2.2.1 with z | z
    · exact I2.ok.noex b o e z
    · exact absurd (Nat.lt_of_lt_of_le (Nat.lt_of_lt_of_le (Heap.lt_size e) I2.ok.bsz) z) (Nat.lt_irrefl _)
  · rcases List.mem_cons.mp (I2.stkSub b z) with q | q
    · exact (f2 b hb).2.1 q
    · exact (f2 b hb).2.2.1 q
  · -- the new frame
    have:=Heap.Ns.new (s2.heap.push (lobj [] 0)) (.type "dict")
    rw [sz3] at this
    exact this.keeps (pushCells_keeps _ _)
  · -- what is seen
    unfold cst at e2
    rw [List.getElem?_map] at e2
    cases ej:ix[i]? with
    | none=>rw [ej] at e2;cases e2
    | some o =>
      rw [ej] at e2
      cases o with
      | none=>cases e2
      | some j =>
        obtain ⟨n1,n2⟩:=c4 i x j e1 ej
        have e2':((σ[j]?).bind id)=some v:=Option.some.inj e2
        have eσ:σ[j]? = some (some v):=by
          cases q:σ[j]? with
          | none=>rw [q] at e2';cases e2'
          | some q'=>rw [q] at e2';cases q' with
            | none=>cases e2'
            | some q''=>cases e2';rfl
        have hv:Vis X.env.scope x:=by
          rcases c2 (x,.free) (PySem.mem_of_lookup n2) rfl with z | z
          · exact .inr (.inl z)
          · exact .inr (.inr z)
        obtain ⟨m,hn,hl⟩:=I2.loc
        obtain ⟨u,ru,lk⟩:=hl j x v n1 eσ hv
        refine ⟨u,ru,.inr ⟨relabel_look (scope:=scope) (env:=X.env) n2,?_⟩⟩
        rcases lk with ⟨z,_⟩ | ⟨_,c,ec,q⟩
        · exfalso
          rcases c2 (x,.free) (PySem.mem_of_lookup n2) rfl with z' | z' <;> (have z2:X.env.scope.names.lookup x=some .local:=z;rw [z2] at z';cases z')
        · refine ⟨c,?_,q.keeps keep⟩
          show (cellsFrom (s2.heap.objs.size+2) scope.names cl).lookup x=some c
          rw [cells_out scope.names _ cl fun p hp e hpc=>by
            have q1:=c1 p hp
            rw [e,n2,hpc] at q1
            cases q1]
          obtain ⟨d,ed⟩:=Option.isSome_iff_exists.mp (cl2 (x,.free) (PySem.mem_of_lookup n2) rfl)
          have:=cl1 x d ed
          rw [ec] at this
          cases this
          exact ed
  · exact I2.hok.fresh (Nat.le_succ _)
  · rcases cc x c e with z | z
    · exact I2.freeC x c (cl1 x c z)
    · exact I2.hok.fresh (by omega)
  · have e:p=(s2.heap.objs.size,lobj [] 0):=by simpa using hp
    subst e
    refine ⟨pushCells_keeps _ _ _ _ (Heap.get?_push_of_some _ (Heap.get?_push_size _ rfl)),I2.hok.fresh (Nat.le_refl _),Nat.ne_of_lt (Nat.lt_succ_self _),fun z=>?_,fun v z=>by cases z⟩
    rcases List.mem_cons.mp (I2.stkSub _ z) with q | q
    · have:=I2.lt;exact absurd (q ▸ this) (Nat.lt_irrefl _)
    · exact I2.nofs (Nat.le_refl _) q
  · show (cst ix σ).length=N'.length
    unfold cst
    rw [List.length_map,c3]
end L2
namespace L2
open PySem PySem.Spec PyProof.Rows
theorem comp_end {X:Cx} {pins pins':List (Addr × Obj)} {σ τ:St} {H2 H':Hp} {s2 s':Shared} {scope:Scope} {N':List Str} {cells:List (Str × Addr)} {fp:List Addr} {C D:Addr} {ys:List V} {its:List Value} {k:Nat} {h':Heap}
    (I2:Inv X pins σ H2 s2) (f2:∀ b∈fp,FpOk X pins H2 b) (I':Inv (compCx X scope N' cells C s2 H2 fp []) pins' τ H' s') (hC:s2.heap.objs.size≤C) (hD:s2.heap.objs.size≤D) (hDC:D≠C)
    (hn:H' D=none) (e:s'.heap.get? D=some (lobj its k)) (hv:Vals ys its) (hz:ys.length≤sizeLine) (sb:Heap.SameBut C s'.heap h'):Inv X pins σ (upd H' D (.lst ys)) { s' with heap:=h' }:=by
  have ne:∀ b o,s2.heap.get? b=some o→b≠C∧b≠D:=fun b o q=>by
    have:=Heap.lt_size q
    exact ⟨Nat.ne_of_lt (Nat.lt_of_lt_of_le this hC),Nat.ne_of_lt (Nat.lt_of_lt_of_le this hD)⟩
  have ok1:HOk X.prog X.w H' h':=HOk.but I'.hok I'.free sb
  have eD:h'.get? D=some (lobj its k):=(sb.2 D hDC).trans e
  have U:=I'.base
  refine I2.call' (s':={ s' with heap:=h' }) (ch:=fp) I'.os ⟨fun b o q n hb hx=>?_,fun b o q n hb hx=>?_,fun b o q n hx=>?_,fun b o q hx=>?_,fun b xs q=>?_,fun b o u q=>?_,fun b ps q=>?_⟩ (HOk.add ok1 hn ⟨hz,its,k,hv,eD⟩) I'.bare fun b hb=>?_
  · exact (sb.2 b (ne b o q).1).trans (U.keep b o q n hb hx)
  · obtain ⟨sl,z⟩:=U.slot b o q n hb hx
    exact ⟨sl,(sb.2 b (ne b o q).1).trans z⟩
  · rw [upd_ne (ne b o q).2];exact U.free b o q n hx
  · obtain ⟨o',z⟩:=U.there b o q hx
    exact ⟨o',(sb.2 b (ne b o q).1).trans z⟩
  · have z:=U.tups b xs q
    rw [upd_ne (ne_of_none z hn)];exact z
  · have z:=U.frzs b o u q
    rw [upd_ne (ne_of_none z hn)];exact z
  · obtain ⟨more,z⟩:=U.tbls b ps q
    exact ⟨more,by rw [upd_ne (ne_of_none z hn)];exact z⟩
  · obtain ⟨_,a1,_,a2,a3,a4⟩:=f2 b hb
    exact ⟨a2,a1,a3,a4⟩
theorem append_un {X:Cx} {τ:St} {H':Hp} {s:Shared} {D:Addr} {its:List Value} {k:Nat} {u:Value} {E:Value→Shared→Prop} {Q:Value→Shared→Prop} (hz:its.length < sizeLine) (e:s.heap.get? D=some (lobj its k))
    (h:∀ h' k',h'.get? D=some (lobj (its++[u]) k')→(∀ b o,b≠D→s.heap.get? b=some o→h'.get? b=some o)→Q .none { s with heap:=h' }) :
    wpAny (model X.prog X.w) X.A (call (.builtin "list.append") [.ref D,u]) Q E s:=by
  refine call_meets F.slot_list_append ⟨_,e,rfl⟩ F.entry_list_append (F.args_list_append_2 _ _) (PySem.list_append D its.toArray k u (by rw [List.size_toArray];omega)) ⟨e,?_⟩
  have q:=PySem.IsL.update e (·.push u)
  have e2:(its++[u]).toArray=its.toArray.push u:=by simp
  refine h _ _ (by show _=some ({ cls:=.type "list",data:=.seq (its++[u]).toArray _ }:Obj);rw [e2];exact q) fun b o hb eb=>(Heap.get?_update_other s.heap _ (Ne.symm hb)).trans eb
theorem pe_comp {X:Cx} {tg iter elt:Expr} {ifs:List Expr} {scope:Scope} {pos:Pos} {N':List Str} {ix:List (Option Nat)} {wi:TI} {g:TG} {tc:TT} {te:TE}
    (hc:X.calm=true) (chk:compChk X scope N' ix=true) (hi:PI X tg iter wi)
    (hg:∀ cells C s₀ H₀ ex pn,PG (compCx X scope N' cells C s₀ H₀ ex pn) tg g)
    (ht:∀ cells C s₀ H₀ ex pn,PTs (compCx X scope N' cells C s₀ H₀ ex pn) ifs tc)
    (he:∀ cells C s₀ H₀ ex pn,PE (compCx X scope N' cells C s₀ H₀ ex pn) elt te)
    (hs:∀ x,foldedSetIterable iter X.env x=pure x:=by intro _;rfl) :
    PE X (.ListComp elt [⟨tg,iter,ifs,0⟩] scope pos) (tComp ix wi g tc te):=by
  intro pins s σ H Q I h
  unfold compChk at chk
  obtain ⟨chk,k5⟩:=Bool.and_eq_true_iff.mp chk
  obtain ⟨chk,k4⟩:=Bool.and_eq_true_iff.mp chk
  obtain ⟨chk,k3⟩:=Bool.and_eq_true_iff.mp chk
  obtain ⟨k1,k2⟩:=Bool.and_eq_true_iff.mp chk
  have c1:∀ p∈scope.names,scope.names.lookup p.1=some p.2:=fun p hp=>by simpa using List.all_eq_true.mp k1 p hp
  have c2:∀ p∈scope.names,p.2=.free→X.env.scope.names.lookup p.1=some .cell∨X.env.scope.names.lookup p.1=some .free:=fun p hp hf=>by
    have:=List.all_eq_true.mp k2 p hp
    rw [hf] at this
    simpa using this
  have c3:ix.length=N'.length:=by simpa using k3
  have ck:scope.kind=.function:=by simpa using k5
  have c4:∀ (i:Nat) (x:Str) (j:Nat),N'[i]? = some x→ix[i]? = some (some j)→X.N[j]? = some x∧scope.names.lookup x=some .free:=fun i x j e1 e2=>by
    have m:(x,some j)∈N'.zip ix:=by
      refine List.mem_of_getElem? (i:=i) ?_
      rw [List.getElem?_zip_eq_some]
      exact ⟨e1,e2⟩
    have:=List.all_eq_true.mp k4 _ m
    have:=Bool.and_eq_true_iff.mp this
    exact ⟨by simpa using this.1,by simpa using this.2⟩
  obtain ⟨cl,ecl,cl1,cl2⟩:=closure_ok (env:=X.env) (scope:=scope) (fun p hp hf=>I.ok.has p.1 (c2 p hp hf))
  rw [eval_ListComp]
  refine wpAny_comprehension_free (use:=none) rfl hs ecl ck (fun y hy hl=>by rw [c1 y hy,hl]) (thn (hi pins s σ H _ I h) fun v s1 h1=>thn h1 fun itv s2 h2=>?_)
  obtain ⟨it,fp,tn,J,H2,e,I2,T,st2,f2,W,⟨m0,w0⟩,turn⟩:=h2
  subst e
  have I5:=comp_inv (N':=N') (ix:=ix) (fp:=fp) c1 c3 c2 c4 ck cl1 cl2 I2 f2 (T.obj _ _ st2)
  refine wpAny_newObj_type ?_
  unfold newFunctionEnv
  refine wpAny_bind (wpAny_alloc ?_)
  refine wpAny_bind (wpAny_layCells _ (fun name kind cells=>by cases hkc:kind == NameKind.cell <;> simp [hkc]) _ _ _ _ ?_)
  refine wpAny_bind ?_
  rw [List.forIn_nil]
  refine wpAny_pure (wpAny_pure ?_)
  have sz3:(s2.heap.push (lobj [] 0)).objs.size=s2.heap.objs.size+1:=Heap.size_push ..
  have sz4:((s2.heap.push (lobj [] 0)).push { cls:=.type "dict",data:=.dict #[] }).objs.size=s2.heap.objs.size+2:=by rw [Heap.size_push,sz3]
  show codeAny (model X.prog X.w) X.A (.compStart (.ListComp elt [⟨tg,iter,ifs,0⟩] scope pos) 0 (.ref it) (.ref s2.heap.objs.size)
    (compCx X scope N' (cellsFrom ((s2.heap.push (lobj [] 0)).push { cls:=.type "dict",data:=.dict #[] }).objs.size scope.names cl) (s2.heap.push (lobj [] 0)).objs.size s2 H2 fp []).env)
    (compPost (model X.prog X.w) X.A X.xe none (EP X pins σ Q) (.ref s2.heap.objs.size) (s2.heap.push (lobj [] 0)).objs.size)
    { s2 with heap:=pushCells ((s2.heap.push (lobj [] 0)).push { cls:=.type "dict",data:=.dict #[] }) scope.names }
  rw [sz4,sz3]
  generalize hcells:cellsFrom (s2.heap.objs.size+2) scope.names cl=cells at I5 ⊢
  have keep5:∀ b o,s2.heap.get? b=some o→(pushCells ((s2.heap.push (lobj [] 0)).push { cls:=.type "dict",data:=.dict #[] }) scope.names).get? b=some o:=fun b o e =>
    pushCells_keeps _ _ b o (Heap.get?_push_of_some _ (Heap.get?_push_of_some _ e))
  generalize hh5:({ s2 with heap:=pushCells ((s2.heap.push (lobj [] 0)).push { cls:=.type "dict",data:=.dict #[] }) scope.names }:Shared)=s5 at I5 ⊢
  have keep5:∀ b o,s2.heap.get? b=some o→s5.heap.get? b=some o:=by rw [← hh5];exact keep5
  have st5:tn 0 s5.heap:=T.keep _ _ _ st2 fun b hb o e=>keep5 b o e
  have lt2:∀ (b:Nat),b∈fp→b < s2.heap.objs.size:=fun b hb=>by
    obtain ⟨o,e,_⟩:=T.obj _ _ st2 b hb
    exact Heap.lt_size e
  -- the iterator within the block
  have stat:∀ {H':Hp} {o:Obj},(∀ b∈fp,H' b=none)→∀ b∈fp,FpOk (compCx X scope N' cells (s2.heap.objs.size+1) s2 H2 fp []) [(s2.heap.objs.size,o)] H' b:=fun {H' o} hn b hb =>
    ⟨hn b hb,(I5.ok.exf b hb).1,I5.ok.exfs b hb,.inl hb,(I5.ok.exf b hb).2,fun p hp=>by
      have e:p=(s2.heap.objs.size,o):=by simpa using hp
      subst e
      exact Nat.ne_of_gt (lt2 b hb)⟩
  have loop:codeAny (model X.prog X.w) X.A (.compLoop (.ListComp elt [⟨tg,iter,ifs,0⟩] scope pos) 0 (.ref it) (.ref s2.heap.objs.size)
      (compCx X scope N' cells (s2.heap.objs.size+1) s2 H2 fp []).env) (compPost (model X.prog X.w) X.A X.xe none (EP X pins σ Q) (.ref s2.heap.objs.size) (s2.heap.objs.size+1)) s5:=by
    refine compLoop_go (fun n s'=>∃ i ys τ H' its k,Inv (compCx X scope N' cells (s2.heap.objs.size+1) s2 H2 fp []) [(s2.heap.objs.size,lobj its k)] τ H' s'∧tn i s'.heap∧(∀ b∈fp,H' b=none)∧Vals ys its∧ys.length≤sizeLine∧W i n ys τ H') ?_ m0
      ⟨0,[],_,H2,[],0,I5,st5,fun b hb=>(f2 b hb).1,.nil,Nat.zero_le _,w0⟩
    rintro n s3 ⟨i,ys,τ,H3,its,k,I3,st3,fr3,hv3,hz3,w3⟩
    rcases turn i n ys τ H3 w3 with ⟨stop,qn⟩ | ⟨go,hlen,N,hN,step⟩
    · refine thn (T.done (compCx X scope N' cells (s2.heap.objs.size+1) s2 H2 fp []) rfl rfl rfl hc i _ s3 τ H3 (fun _ _=>False) I3 (stat fr3) st3 stop) fun r s4 ⟨hr,I4⟩=>?_
      subst hr
      obtain ⟨m,hn,_⟩:=id I4.loc
      obtain ⟨eD,nD,_,_,_⟩:=I4.pin (s2.heap.objs.size,lobj its k) (by simp)
      refine ⟨m,hn,fun h' sb=>⟨.ref s2.heap.objs.size,upd H3 s2.heap.objs.size (.lst ys),?_,rfl,qn _ nD⟩⟩
      exact comp_end I2 f2 I4 (Nat.le_succ _) (Nat.le_refl _) (Nat.ne_of_lt (Nat.lt_succ_self _)) nD eD hv3 hz3 sb
    · refine thn (T.item (compCx X scope N' cells (s2.heap.objs.size+1) s2 H2 fp []) rfl rfl rfl hc i _ s3 τ H3 (fun _ _=>False) I3 (stat fr3) st3 go) fun r s4 ⟨u,hr,h4⟩=>?_
      subst hr
      refine thn h4 fun _ s5' ⟨x,H5,I5',r5,y5,st5',fr5⟩=>?_
      have I6:=I5'.pinned (stat fr5) (T.obj _ _ st5')
      refine thn (hg cells _ s2 H2 fp [] _ s5' τ H5 x u _ I6 r5 (step x H5 y5)) fun _ s6 ⟨τ6,H6,I7,q6⟩=>?_
      refine thn (ht cells _ s2 H2 fp [] _ s6 τ6 H6 _ I7 q6) fun ok s7 ⟨H7,I8,q7⟩=>?_
      have fin:∀ {s8:Shared} {H8:Hp} {its':List Value} {k':Nat} {ys':List V},Inv (compCx X scope N' cells (s2.heap.objs.size+1) s2 H2 fp []) ([(s2.heap.objs.size,lobj its' k')]++pinsAt fp s5'.heap) τ6 H8 s8→Vals ys' its'→ys'.length≤sizeLine→N ys' τ6 H8 →
          ∃ m,m < n∧∃ i ys τ H' its k,Inv (compCx X scope N' cells (s2.heap.objs.size+1) s2 H2 fp []) [(s2.heap.objs.size,lobj its k)] τ H' s8∧tn i s8.heap∧(∀ b∈fp,H' b=none)∧Vals ys its∧ys.length≤sizeLine∧W i m ys τ H':=fun {s8 H8 its' k' ys'} I9 hv hz n9=>by
        obtain ⟨m',hm,w9⟩:=hN ys' τ6 H8 n9
        refine ⟨m',hm,i+1,ys',τ6,H8,its',k',I9.unpinned,T.keep _ _ _ st5' fun b hb o e=>(I9.pin (b,o) (List.mem_append_right _ (List.mem_append_right _ (mem_pinsAt hb e)))).1,fun b hb=>?_,hv,hz,w9⟩
        obtain ⟨o,e,d⟩:=T.obj _ _ st5' b hb
        exact (I9.pin (b,o) (List.mem_append_right _ (List.mem_append_right _ (mem_pinsAt hb e)))).2.1
      cases ok with
      | false=>exact fin I8 hv3 hz3 q7
      | true =>
        refine thn (he cells _ s2 H2 fp [] _ s7 τ6 H7 _ I8 q7) fun y s8 ⟨v8,H8,I9,r8,q8⟩=>?_
        obtain ⟨eD,nD,dL,dF,_⟩:=I9.pin (s2.heap.objs.size,lobj its k) (by simp)
        have hl:=hv3.length
        refine append_un (X:=X) (τ:=τ) (H':=H8) (by omega) eD fun h' k' eD' kp=>?_
        -- the pin on the list is let go,the list turns,and is pinned anew
        have hx:∀ p∈pinsAt fp s5'.heap,p.1≠s2.heap.objs.size:=fun p hp=>by
          have:=lt2 p.1 (of_pinsAt hp).1
          exact Nat.ne_of_lt this
        have J1:Inv (compCx X scope N' cells (s2.heap.objs.size+1) s2 H2 fp []) (pinsAt fp s5'.heap) τ6 H8 s8:=I9.pins_of fun p hp=>I9.pin p (List.mem_append_right _ (List.mem_append_right _ hp))
        have J2:Inv (compCx X scope N' cells (s2.heap.objs.size+1) s2 H2 fp []) (pinsAt fp s5'.heap) τ6 H8 { s8 with heap:=h' }:=J1.turned (t':=s8.toks) (it:=s2.heap.objs.size) kp nD dL (.inr (Nat.le_refl _)) (fun x c e z=>by
          obtain ⟨v,o,ho,hd⟩:=J1.cell x c e
          rw [z,eD] at ho
          cases ho
          cases hd) fun p hp=>hx p (by simpa using hp)
        have J3:Inv (compCx X scope N' cells (s2.heap.objs.size+1) s2 H2 fp []) ([(s2.heap.objs.size,lobj (its++[y]) k')]++pinsAt fp s5'.heap) τ6 H8 { s8 with heap:=h' }:=J2.pins_of fun p hp=>by
          rcases List.mem_append.mp hp with z | z
          · have e:p=(s2.heap.objs.size,lobj (its++[y]) k'):=by simpa using z
            subst e
            exact ⟨eD',nD,dL,dF,fun v z=>by cases z⟩
          · exact J2.pin p (List.mem_append_right _ z)
        exact fin J3 (hv3.append (.cons r8 .nil)) (by rw [List.length_append,List.length_singleton];omega) q8
  exact codeAny_compStart_list loop (T.self X.A 0 s5 _ _ st5 loop)
end L2
namespace L2
open PySem PySem.Spec PyProof.Rows
structure Sure (J:It) (xs:List V) (ok:Hp→Prop):Prop where
  go:∀ i H,i < xs.length→ok H→J.go i H
  yld:∀ i H x H',i < xs.length→ok H→J.yld i H x H'→H'=H∧xs[i]? = some x
  stop:∀ H,ok H→J.stop xs.length H
theorem sure_list {K:PySem.W.Frag} {a:Addr} {xs:List V}:Sure (Itl K a) xs (fun H=>SqL K H a xs) where
  go:=fun i H hi h=>⟨xs,xs[i],h,by simp [hi]⟩
  yld:=fun i H x H' _ h y=>⟨y.1,y.2 xs h⟩
  stop:=fun H h=>⟨xs,h,Nat.le_refl _⟩
def rngV (lo:Int) (n:Nat):List V:=(List.range n).map fun (k:Nat)=>V.int (lo+k)
theorem rngV_length (lo:Int) (n:Nat):(rngV lo n).length=n:=by unfold rngV;simp
theorem sure_range {lo:Int} {n:Nat}:Sure (Itr lo n) (rngV lo n) (fun _=>True) where
  go:=fun i H hi h=>by rw [rngV_length] at hi;exact hi
  yld:=fun i H x H' hi h y=>⟨y.1,by
    obtain ⟨_,rfl⟩:=y
    rw [rngV_length] at hi
    unfold rngV
    rw [List.getElem?_map,List.getElem?_range hi]
    rfl⟩
  stop:=fun H h=>by rw [rngV_length];exact Nat.le_refl n
def sign (c:Nat):V:=.str ⟨#[c]⟩
theorem for_by {J:It} {xs:List V} {ok:Hp→Prop} {g:TG} {tb:TS} {D:Ends} {σ:St} {H:Hp} (S:Sure J xs ok) (Pv:Nat→St→Hp→Prop) (h0:Pv 0 σ H) (hl:∀ i σ H,i≤xs.length→Pv i σ H→ok H)
    (hs:∀ i x σ H,xs[i]? = some x→Pv i σ H→g x σ H fun σ2 H2=>tb { D with nx:=Pv (i+1),ct:=Pv (i+1),bk:=D.nx } σ2 H2) (hd:∀ σ H,Pv xs.length σ H→D.nx σ H) :
    ∃ W:Nat→Nat→St→Hp→Prop,(∃ m,W 0 m σ H)∧∀ i m σ H,W i m σ H →
      (J.stop i H∧D.nx σ H)∨(J.go i H∧∃ N:St→Hp→Prop,(∀ σ' H',N σ' H'→∃ m',m' < m∧W (i+1) m' σ' H')∧∀ x H',J.yld i H x H'→g x σ H' fun σ2 H2=>tb { D with nx:=N,ct:=N,bk:=D.nx } σ2 H2):=by
  refine ⟨fun i m σ H=>m=xs.length - i∧i≤xs.length∧Pv i σ H,⟨xs.length,by simp,Nat.zero_le _,h0⟩,?_⟩
  rintro i m σ H ⟨rfl,hi,p⟩
  have q:=hl i σ H hi p
  by_cases hlt:i < xs.length
  · refine .inr ⟨S.go i H hlt q,Pv (i+1),fun σ' H' p'=>⟨xs.length - (i+1),by omega,rfl,hlt,p'⟩,fun x H' y=>?_⟩
    obtain ⟨e,y'⟩:=S.yld i H x H' hlt q y
    subst e
    exact hs i x σ _ y' p
  · have e:i=xs.length:=by omega
    subst e
    exact .inl ⟨S.stop H q,hd σ H p⟩
theorem comp_by {J:It} {xs:List V} {ok:Hp→Prop} {g:TG} {tc:TT} {te:TE} {Q:VK} {τ0:St} {H:Hp} (S:Sure J xs ok) (hz:xs.length≤10000) (Pv:Nat→List V→St→Hp→Prop) (h0:Pv 0 [] τ0 H)
    (hl:∀ i ys τ H,i≤xs.length→Pv i ys τ H→ok H∧ys.length≤i)
    (hs:∀ i x ys τ H,xs[i]? = some x→Pv i ys τ H→g x τ H fun τ2 H2=>tc τ2 H2 fun b H3=>if b=true then te τ2 H3 (fun y H4=>Pv (i+1) (ys++[y]) τ2 H4) else Pv (i+1) ys τ2 H3)
    (hd:∀ ys τ H D,Pv xs.length ys τ H→H D=none→Q (.ref D) (upd H D (.lst ys))) :
    ∃ W:Nat→Nat→List V→St→Hp→Prop,(∃ m,W 0 m [] τ0 H)∧∀ i m ys τ H,W i m ys τ H →
      (J.stop i H∧∀ D,H D=none→Q (.ref D) (upd H D (.lst ys))) ∨
      (J.go i H∧ys.length < sizeLine∧∃ N:List V→St→Hp→Prop,(∀ ys' τ' H',N ys' τ' H'→∃ m',m' < m∧W (i+1) m' ys' τ' H') ∧
        ∀ x H',J.yld i H x H'→g x τ H' fun τ2 H2=>tc τ2 H2 fun b H3=>if b=true then te τ2 H3 (fun y H4=>N (ys++[y]) τ2 H4) else N ys τ2 H3):=by
  refine ⟨fun i m ys τ H=>m=xs.length - i∧i≤xs.length∧Pv i ys τ H,⟨xs.length,by simp,Nat.zero_le _,h0⟩,?_⟩
  rintro i m ys τ H ⟨rfl,hi,p⟩
  obtain ⟨q,hy⟩:=hl i ys τ H hi p
  by_cases hlt:i < xs.length
  · refine .inr ⟨S.go i H hlt q,Nat.lt_of_lt_of_le (show ys.length < 10000 by omega) (by decide),Pv (i+1),fun ys' τ' H' p'=>⟨xs.length - (i+1),by omega,rfl,hlt,p'⟩,fun x H' y=>?_⟩
    obtain ⟨e,y'⟩:=S.yld i H x H' hlt q y
    subst e
    exact hs i x ys τ _ y' p
  · have e:i=xs.length:=by omega
    subst e
    exact .inl ⟨S.stop H q,fun D hD=>hd ys τ H D p hD⟩
end L2
namespace L2
open PySem PySem.Spec PyProof.Rows
theorem Inv.newTup {X:Cx} {pins:List (Addr × Obj)} {σ:St} {H:Hp} {s:Shared} {ch:List Addr} {T:Addr} {xs:List V} {its:List Value} {h':Heap} {t':Nat} (I:Inv X pins σ H s) (hch:∀ b∈ch,FpOk X pins H b)
    (k:∀ b o,b ∉ ch→s.heap.get? b=some o→h'.get? b=some o) (hT:s.heap.objs.size≤T) (hv:Vals xs its) (ht:IsTup h' T its.toArray∧Bare h' T) (hz:xs.length≤sizeLine) :
    Inv X pins σ (upd H T (.tup xs)) { s with heap:=h',toks:=t' }:=by
  have neT:∀ b o,s.heap.get? b=some o→b≠T:=fun b o e=>Nat.ne_of_lt (Nat.lt_of_lt_of_le (Heap.lt_size e) hT)
  have neH:∀ b u,H b=some u→b≠T:=fun b u e=>Nat.ne_of_lt (Nat.lt_of_lt_of_le (I.hok.lt e) hT)
  have nch:∀ b u,H b=some u→b ∉ ch:=fun b u e hb=>by rw [(hch b hb).1] at e;cases e
  refine I.step (g':=s.gens) (d':=s.drawn) (ch:=ch) (fun b hb=>?_) (fun b o _ _ hc e _=>k b o hc e) (fun b o _ _ hc e _=>⟨o.slots,k b o hc e⟩) (fun b o _ e n=>?_) (fun b o hc e=>⟨o,k b o hc e⟩)
    (fun b ys e=>?_) (fun b o u e=>?_) (fun b ps e=>⟨#[],?_⟩) (fun m hm=>?_) (fun b u e=>?_) I.bare
  · obtain ⟨_,a1,_,a2,a3,a4⟩:=hch b hb
    exact ⟨a2,a1,a3,a4⟩
  · rw [upd_ne (neT b o e)];exact n
  · rw [upd_ne (neH b _ e)];exact e
  · rw [upd_ne (neH b _ e)];exact e
  · rw [upd_ne (neH b _ e),e];simp
  · obtain ⟨o,es,ep,ho,r⟩:=hm
    exact ⟨o,es,ep,k _ o (fun z=>(hch _ z).2.1 rfl) ho,r⟩
  · by_cases hb:b=T
    · subst hb
      rw [upd_same] at e
      cases e
      exact ⟨hz,its,hv,ht⟩
    · rw [upd_ne hb] at e
      refine (I.hok b u e).stay (fun c v hc q=>k c v ?_ q) (fun c q=>by rw [upd_ne (neH c _ q)];exact q) fun c ys q=>by rw [upd_ne (neH c _ q)];exact q
      rcases hc with z | z
      · rw [z];exact nch b u e
      · exact nch c _ z
def ItP (go:Nat→Hp→Prop) (stop:Nat→Hp→Prop) (at_:Nat→Hp→List V→Prop):It:=⟨go,fun i H v H'=>∃ T ys,H T=none∧v=.ref T∧at_ i H ys∧H'=upd H T (.tup ys),stop⟩
def Itz (K:PySem.W.Frag) (l1 l2:Addr):It:=ItP (fun i H=>∃ xs x ys y,SqL K H l1 xs∧xs[i]? = some x∧SqL K H l2 ys∧ys[i]? = some y) (fun i H=>∃ xs ys,SqL K H l1 xs∧SqL K H l2 ys∧min xs.length ys.length=i)
  (fun i H vs=>∃ x y,(∀ xs,SqL K H l1 xs→xs[i]? = some x)∧(∀ ys,SqL K H l2 ys→ys[i]? = some y)∧vs=[x,y])
structure Sure2 (J:It) (xs:List (List V)) (ok:Hp→Prop):Prop where
  go:∀ i H,i < xs.length→ok H→J.go i H
  yld:∀ i H x H',i < xs.length→ok H→J.yld i H x H'→∃ T ys,H T=none∧x=.ref T∧H'=upd H T (.tup ys)∧xs[i]? = some ys
  stop:∀ H,ok H→J.stop xs.length H
theorem sure_zip {K:PySem.W.Frag} {l1 l2:Addr} {xs ys:List V}:Sure2 (Itz K l1 l2) ((xs.zip ys).map fun p=>[p.1,p.2]) (fun H=>SqL K H l1 xs∧SqL K H l2 ys) where
  go:=fun i H hi h=>by
    have hi':i < xs.length∧i < ys.length:=by simpa [Nat.lt_min] using hi
    exact ⟨xs,xs[i],ys,ys[i],h.1,by simp [hi'.1],h.2,by simp [hi'.2]⟩
  yld:=fun i H v H' hi h z=>by
    obtain ⟨T,vs,hT,rfl,⟨x,y,hx,hy,rfl⟩,rfl⟩:=z
    refine ⟨T,_,hT,rfl,rfl,?_⟩
    have e:(xs.zip ys)[i]? = some (x,y):=List.getElem?_zip_eq_some.mpr ⟨hx xs h.1,hy ys h.2⟩
    rw [List.getElem?_map,e]
    rfl
  stop:=fun H h=>⟨xs,ys,h.1,h.2,by simp⟩
theorem comp_by2 {J:It} {xs:List (List V)} {ok:Hp→Prop} {g:TG} {tc:TT} {te:TE} {Q:VK} {τ0:St} {H:Hp} (S:Sure2 J xs ok) (hz:xs.length≤10000) (Pv:Nat→List V→St→Hp→Prop) (h0:Pv 0 [] τ0 H)
    (hl:∀ i ys τ H,i≤xs.length→Pv i ys τ H→ok H∧ys.length≤i)
    (hs:∀ i zs ys τ H T,xs[i]? = some zs→Pv i ys τ H→H T=none→g (.ref T) τ (upd H T (.tup zs)) fun τ2 H2=>tc τ2 H2 fun b H3=>if b=true then te τ2 H3 (fun y H4=>Pv (i+1) (ys++[y]) τ2 H4) else Pv (i+1) ys τ2 H3)
    (hd:∀ ys τ H D,Pv xs.length ys τ H→H D=none→Q (.ref D) (upd H D (.lst ys))) :
    ∃ W:Nat→Nat→List V→St→Hp→Prop,(∃ m,W 0 m [] τ0 H)∧∀ i m ys τ H,W i m ys τ H →
      (J.stop i H∧∀ D,H D=none→Q (.ref D) (upd H D (.lst ys))) ∨
      (J.go i H∧ys.length < sizeLine∧∃ N:List V→St→Hp→Prop,(∀ ys' τ' H',N ys' τ' H'→∃ m',m' < m∧W (i+1) m' ys' τ' H') ∧
        ∀ x H',J.yld i H x H'→g x τ H' fun τ2 H2=>tc τ2 H2 fun b H3=>if b=true then te τ2 H3 (fun y H4=>N (ys++[y]) τ2 H4) else N ys τ2 H3):=by
  refine ⟨fun i m ys τ H=>m=xs.length - i∧i≤xs.length∧Pv i ys τ H,⟨xs.length,by simp,Nat.zero_le _,h0⟩,?_⟩
  rintro i m ys τ H ⟨rfl,hi,p⟩
  obtain ⟨q,hy⟩:=hl i ys τ H hi p
  by_cases hlt:i < xs.length
  · refine .inr ⟨S.go i H hlt q,Nat.lt_of_lt_of_le (show ys.length < 10000 by omega) (by decide),Pv (i+1),fun ys' τ' H' p'=>⟨xs.length - (i+1),by omega,rfl,hlt,p'⟩,fun x H' y=>?_⟩
    obtain ⟨T,zs,hT,rfl,rfl,y'⟩:=S.yld i H x H' hlt q y
    exact hs i zs ys τ H T y' p hT
  · have e:i=xs.length:=by omega
    subst e
    exact .inl ⟨S.stop H q,fun D hD=>hd ys τ H D p hD⟩
theorem zip_itemB {P:Program} {w:World} {A:Around} (z TI TO i1 i2 l1 l2:Addr) (D:ZipApart z TI TO i1 i2 l1 l2) (xs ys:Array Value) (i:Nat) (s:Shared) (Q:Option Value→Shared→Prop) (E:Value→Shared→Prop) (hi:i < min xs.size ys.size)
    (st:IsZip s.heap z TI TO .none∧IsPair s.heap TI (.ref i1) (.ref i2)∧(∃ a b,IsPair s.heap TO a b)∧s.heap.IsListIter i1 l1 i∧s.heap.IsListIter i2 l2 i∧s.heap.IsList l1 xs∧s.heap.IsList l2 ys)
    (q : ∀ T vals h' tk,(∃ x y,xs[i]? = some x∧ys[i]? = some y∧vals = #[x,y])→s.heap.objs.size≤T→h'.IsTuple T vals∧Bare h' T →
      (IsZip h' z TI TO (rawInt T)∧IsPair h' TI (.ref i1) (.ref i2)∧(∃ a b,IsPair h' TO a b)∧h'.IsListIter i1 l1 (i+1)∧h'.IsListIter i2 l2 (i+1)∧h'.IsList l1 xs∧h'.IsList l2 ys∧T≠z∧T≠TO∧T≠i1∧T≠i2) →
      (∀ b o,b ∉ [z,TO,i1,i2]→s.heap.get? b=some o→h'.get? b=some o)→Q (some (.ref T)) { s with heap:=h',toks:=tk }) :
    wpAny (model P w) A (pyNext (.ref z)) Q E s:=by
  obtain ⟨k1,k2,⟨a,b,k3⟩,k4,k5,k6,k7⟩:=st
  have e1:xs[i]? = some (xs[i]'(by omega)):=Array.getElem?_eq_getElem (by omega)
  have e2:ys[i]? = some (ys[i]'(by omega)):=Array.getElem?_eq_getElem (by omega)
  refine wpAny_pyNext_zip_item D k1 k2 k3 k4 k5 k6 k7 e1 e2 fun g y1 y2 y3 y4 y5 y6 y7=>?_
  have nn:∀ {c o},s.heap.get? c=some o→s.heap.objs.size≠c:=fun m=>Nat.ne_of_gt (Heap.lt_size m)
  have n3:s.heap.objs.size≠i1:=by
    obtain ⟨_,m,_⟩:=k4
    exact nn m
  have n4:s.heap.objs.size≠i2:=by
    obtain ⟨_,m,_⟩:=k5
    exact nn m
  refine q s.heap.objs.size _ g s.toks ⟨_,_,e1,e2,rfl⟩ (Nat.le_refl _) ⟨⟨_,y5,rfl,_,rfl⟩,_,y5,rfl⟩ ⟨y1,y7 _ _ D.TIz D.TITO D.TIi1 D.TIi2 k2,⟨_,_,y2⟩,y3,y4,k6.at fun o m=>y7 _ o D.l1z D.l1TO D.l1i1 D.l1i2 m,k7.at fun o m=>y7 _ o D.l2z D.l2TO D.l2i1 D.l2i2 m,nn k1,nn k3,n3,n4⟩ fun c o nc m=>?_
  simp only [List.mem_cons,List.not_mem_nil,or_false,not_or] at nc
  exact y7 c o nc.1 nc.2.1 nc.2.2.1 nc.2.2.2 m
theorem turn_zip {P:Program} {w:World} {K:PySem.W.Frag} {elts:List Expr} {k:Nat} {pos:Pos} (l1 l2 z TI TO i1 i2:Addr) (d1:TI≠z) (d2:TO≠z) (d3:i1≠z) (d4:i2≠z) (d5:TI≠TO) (d6:TI≠i1) (d7:TI≠i2) (d8:TO≠i1) (d9:TO≠i2) (d10:i1≠i2) :
    Turn P w K (.Tuple elts k pos) (Itz K l1 l2) [z,TI,TO,i1,i2] z (fun i h=>IsZip h z TI TO .none∧IsPair h TI (.ref i1) (.ref i2)∧(∃ a b,IsPair h TO a b)∧h.IsListIter i1 l1 i∧h.IsListIter i2 l2 i):=by
  have ap:∀ {h:Heap} {i:Nat} {xs:Array Value} {l:Addr},h.IsList l xs→IsZip h z TI TO .none→IsPair h TI (.ref i1) (.ref i2)→(∃ a b,IsPair h TO a b)→h.IsListIter i1 l1 i→h.IsListIter i2 l2 i→l≠z∧l≠TO∧l≠i1∧l≠i2:=by
    intro h i xs l hl h1 h2 h3 h4 h5
    obtain ⟨o,ho,hc,_⟩:=hl
    refine ⟨fun e=>?_,fun e=>?_,fun e=>?_,fun e=>?_⟩
    · rw [e,h1] at ho;cases ho;exact absurd (Value.type.inj hc) (by decide)
    · obtain ⟨a,b,h3⟩:=h3
      rw [e,h3] at ho;cases ho;exact absurd (Value.type.inj hc) (by decide)
    · obtain ⟨o',ho',hc',_⟩:=h4
      rw [e,ho'] at ho;cases ho;rw [hc'] at hc;exact absurd (Value.type.inj hc) (by decide)
    · obtain ⟨o',ho',hc',_⟩:=h5
      rw [e,ho'] at ho;cases ho;rw [hc'] at hc;exact absurd (Value.type.inj hc) (by decide)
  exact {
    mem:=by simp
    obj:=fun i h st b hb=>by
      obtain ⟨h1,h2,⟨a,b',h3⟩,⟨o4,e4,c4,q4⟩,⟨o5,e5,c5,q5⟩⟩:=st
      have hb':b=z∨b=TI∨b=TO∨b=i1∨b=i2:=by simpa using hb
      rcases hb' with e | e | e | e | e
      · rw [e];exact ⟨_,h1,fun v z=>by cases z⟩
      · rw [e];exact ⟨_,h2,fun v z=>by cases z⟩
      · rw [e];exact ⟨_,h3,fun v z=>by cases z⟩
      · rw [e];exact ⟨o4,e4,fun v z=>by rw [q4] at z;cases z⟩
      · rw [e];exact ⟨o5,e5,fun v z=>by rw [q5] at z;cases z⟩
    keep:=fun i h h' st kk=>by
      obtain ⟨h1,h2,⟨a,b',h3⟩,h4,h5⟩:=st
      exact ⟨kk z (by simp) _ h1,kk TI (by simp) _ h2,⟨a,b',kk TO (by simp) _ h3⟩,h4.at fun o x=>kk i1 (by simp) o x,h5.at fun o x=>kk i2 (by simp) o x⟩
    item:=by
      intro X hP hw hK hc i pins s σ H E I hf st hg
      subst hP hw hK
      obtain ⟨xs,x,ys,y,hq1,hx,hq2,hy⟩:=hg
      obtain ⟨its1,rv1,p1,hz1⟩:=I.list hq1
      obtain ⟨its2,rv2,p2,hz2⟩:=I.list hq2
      obtain ⟨u,hu,ru⟩:=rv1.get hx
      obtain ⟨v,hv,rv⟩:=rv2.get hy
      obtain ⟨h1,h2,h3,h4,h5⟩:=st
      obtain ⟨n1,n2,n3,n4⟩:=ap p1.isList h1 h2 h3 h4 h5
      obtain ⟨m1,m2,m3,m4⟩:=ap p2.isList h1 h2 h3 h4 h5
      have W:=WalksT.zip2 (prog:=X.prog) (w:=X.w) (I.ok.hd hc) z TI TO i1 i2 l1 l2 ⟨d1,d2,d3,d4,d5,d6,d7,d8,d9,d10,n1,n2,n3,n4,m1,m2,m3,m4⟩ its1.toArray its2.toArray
      refine zip_itemB z TI TO i1 i2 l1 l2 ⟨d1,d2,d3,d4,d5,d6,d7,d8,d9,d10,n1,n2,n3,n4,m1,m2,m3,m4⟩ its1.toArray its2.toArray i s _ _ (by have a1:=(List.getElem?_eq_some_iff.mp hu).1;have a2:=(List.getElem?_eq_some_iff.mp hv).1;simp;omega) ⟨h1,h2,h3,h4,h5,p1.isList,p2.isList⟩ fun T vals h' tk hP hT hTu hM kk=>?_
      obtain ⟨x',y',hx',hy',rfl⟩:=hP
      refine ⟨_,rfl,?_⟩
      refine W.go elts k pos i T { s with heap:=h',toks:=tk } _ _ hM fun h2' st' kk2=>?_
      have eu:x'=u:=by
        have:its1[i]? = some x':=by simpa using hx'
        rw [hu] at this;exact (Option.some.inj this).symm
      have ev:y'=v:=by
        have:its2[i]? = some y':=by simpa using hy'
        rw [hv] at this;exact (Option.some.inj this).symm
      subst eu ev
      have nT:T ∉ [z,TO,i1,i2]:=W.apart i T h' hM
      have sub:∀ b,b ∉ [z,TI,TO,i1,i2]→b ∉ [z,TO,i1,i2]:=fun b hb hb'=>hb (W.sub b hb' |> fun q=>by
        simp at hb' ⊢
        rcases hb' with e | e | e | e <;> simp [e])
      have nTI:T≠TI:=Nat.ne_of_gt (Nat.lt_of_lt_of_le (Heap.lt_size h2) hT)
      refine ⟨.ref T,upd H T (.tup [x,y]),I.newTup (ch:=[z,TI,TO,i1,i2]) (its:=[x',y']) hf (fun b o hb eb=>kk2 b o (sub b hb) (kk b o (sub b hb) eb)) hT (.cons ru (.cons rv .nil)) ?_ (by show 2≤sizeLine;decide),rfl,
        ⟨T,_,I.hok.fresh hT,rfl,⟨x,y,fun zs hz=>by rw [I.list_inj hz hq1];exact hx,fun zs hz=>by rw [I.list_inj hz hq2];exact hy,rfl⟩,rfl⟩,⟨st'.1,st'.2.1,st'.2.2.1,st'.2.2.2.1,st'.2.2.2.2.1⟩,fun b hb=>?_⟩
      · obtain ⟨⟨o,ho,r⟩,o',ho',r'⟩:=hTu
        exact ⟨⟨o,kk2 T o nT ho,r⟩,o',kk2 T o' nT ho',r'⟩
      · have nb:b≠T:=fun q=>by
          have hb':b=z∨b=TI∨b=TO∨b=i1∨b=i2:=by simpa using hb
          rw [q] at hb'
          rcases hb' with e | e | e | e | e
          · exact nT (by simp [e])
          · exact nTI e
          · exact nT (by simp [e])
          · exact nT (by simp [e])
          · exact nT (by simp [e])
        rw [upd_ne nb];exact (hf b hb).1
    done:=by
      intro X hP hw hK hc i pins s σ H E I hf st hg
      subst hP hw hK
      obtain ⟨xs,ys,hq1,hq2,hi⟩:=hg
      obtain ⟨its1,rv1,p1,hz1⟩:=I.list hq1
      obtain ⟨its2,rv2,p2,hz2⟩:=I.list hq2
      obtain ⟨h1,h2,h3,h4,h5⟩:=st
      obtain ⟨n1,n2,n3,n4⟩:=ap p1.isList h1 h2 h3 h4 h5
      obtain ⟨m1,m2,m3,m4⟩:=ap p2.isList h1 h2 h3 h4 h5
      have W:=WalksT.zip2 (prog:=X.prog) (w:=X.w) (I.ok.hd hc) z TI TO i1 i2 l1 l2 ⟨d1,d2,d3,d4,d5,d6,d7,d8,d9,d10,n1,n2,n3,n4,m1,m2,m3,m4⟩ its1.toArray its2.toArray
      have e:i=min its1.toArray.size its2.toArray.size:=by
        have:=rv1.length;have:=rv2.length;simp;omega
      subst e
      refine W.done s _ _ ⟨h1,h2,h3,h4,h5,p1.isList,p2.isList⟩ fun h' tk kk=>⟨rfl,?_⟩
      refine I.step (g':=s.gens) (d':=s.drawn) (ch:=[z,TO,i1,i2]) (fun b hb=>?_) (fun b o _ _ hc e _=>kk b o hc e) (fun b o _ _ hc e _=>⟨o.slots,kk b o hc e⟩) (fun _ _ _ _ n=>n)
        (fun b o hc e=>⟨o,kk b o hc e⟩) (fun _ _ e=>e) (fun _ _ _ e=>e) (fun b ps e=>⟨#[],by rw [e];simp⟩) (fun m hm=>?_) (fun b u e=>?_) I.bare
      · obtain ⟨_,a1,_,a2,a3,a4⟩:=hf b (by simp at hb ⊢;rcases hb with e | e | e | e <;> simp [e])
        exact ⟨a2,a1,a3,a4⟩
      · obtain ⟨o,es,ep,ho,r⟩:=hm
        exact ⟨o,es,ep,kk _ o (fun q=>(hf _ (by simp at q ⊢;rcases q with e | e | e | e <;> simp [e])).2.1 rfl) ho,r⟩
      · have nch:∀ b u,H b=some u→b ∉ [z,TO,i1,i2]:=fun b u e hb=>by
          rw [(hf b (by simp at hb ⊢;rcases hb with e | e | e | e <;> simp [e])).1] at e;cases e
        refine (I.hok b u e).stay (fun c v hc q=>kk c v ?_ q) (fun _ q=>q) fun _ _ q=>q
        rcases hc with z' | z'
        · rw [z'];exact nch b u e
        · exact nch c _ z'
    self:=fun _ _ _ _ _ st h=>wpAny_pyIter_zip st.1 h }
def iZip (K:PySem.W.Frag) (ta:TA):TI:=fun σ H R=>ta σ H fun vs H1=>∃ a b,vs=[.ref a,.ref b]∧(∃ xs,SqL K H1 a xs)∧(∃ ys,SqL K H1 b ys)∧R (Itz K a b) H1
theorem pi_zip {X:Cx} {l l':Expr} {ta:TA} {elts:List Expr} {k:Nat} {tp p pos:Pos} (hg:Gl X "zip") (hm:X.mg "zip" = none) (hl:PA X [l,l'] ta) (hs:starEach [l,l'] X.env=[(false,eval l X.env),(false,eval l' X.env)]:=by rfl) (hs2:starEach [l'] X.env=[(false,eval l' X.env)]:=by rfl) :
    PI X (.Tuple elts k tp) (.Call (.Name "zip" p) [l,l'] [] pos) (iZip X.K ta):=by
  intro pins s σ H R I h
  refine Call_ (ld_blt I hg hm (by first | exact boot_zip | decide +kernel) (PyProof.Rows.callWith_type1 (thn (hl pos pins s σ H _ I h) fun us s1 ⟨vs,H1,I1,r1,q1⟩=>?_) (by rw [hs,hs2]) (by rw [hs2];rfl)))
  obtain ⟨a,b,e,⟨xs,hq1⟩,⟨ys,hq2⟩,q⟩:=q1
  subst e
  cases r1 with
  | cons r rr =>
    cases rr with
    | cons r' rr =>
      cases rr
      cases r
      cases r'
      obtain ⟨its,rv,p,hz⟩:=I1.list hq1
      obtain ⟨its2,rv2,p2,hz2⟩:=I1.list hq2
      refine call_zip_2 p.isList p2.isList fun h' hz' hTI hTO hi1 hi2 hsz kk=>?_
      have I2:Inv X pins σ H1 { s1 with heap:=h' }:=I1.kept (t':=s1.toks) kk
      refine wpAny_pyIter_zip (s:={ s1 with heap:=h' }) hz' ?_
      refine ⟨s1.heap.objs.size+4,[s1.heap.objs.size+4,s1.heap.objs.size+2,s1.heap.objs.size+3,s1.heap.objs.size,s1.heap.objs.size+1],_,_,H1,rfl,I2,
        turn_zip a b _ _ _ _ _ (by simp) (by simp) (by simp) (by simp) (by simp) (by simp) (by simp) (by simp) (by simp) (by simp),⟨hz',hTI,⟨_,_,hTO⟩,hi1,hi2⟩,fun c hb=>?_,q⟩
      have:s1.heap.objs.size≤c:=by
        have hb':c=s1.heap.objs.size+4∨c=s1.heap.objs.size+2∨c=s1.heap.objs.size+3∨c=s1.heap.objs.size∨c=s1.heap.objs.size+1:=by simpa using hb
        rcases hb' with e | e | e | e | e <;> rw [e] <;> first | exact Nat.le_refl _ | exact Nat.le_add_right _ _
      exact I1.fpOk this (I1.hok.fresh this)
theorem comp_all {J:It} {xs:List V} {ok:Hp→Prop} {g:TG} {te:TE} {Q:VK} {τ0:St} {H:Hp} (S:Sure J xs ok) (hz:xs.length≤10000) (Pv:Nat→List V→St→Hp→Prop) (h0:Pv 0 [] τ0 H)
    (hl:∀ i ys τ H,i≤xs.length→Pv i ys τ H→ok H∧ys.length≤i)
    (hs:∀ i x ys τ H,xs[i]? = some x→Pv i ys τ H→g x τ H fun τ2 H2=>te τ2 H2 (fun y H4=>Pv (i+1) (ys++[y]) τ2 H4))
    (hd:∀ ys τ H D,Pv xs.length ys τ H→H D=none→Q (.ref D) (upd H D (.lst ys))) :
    ∃ W:Nat→Nat→List V→St→Hp→Prop,(∃ m,W 0 m [] τ0 H)∧∀ i m ys τ H,W i m ys τ H →
      (J.stop i H∧∀ D,H D=none→Q (.ref D) (upd H D (.lst ys))) ∨
      (J.go i H∧ys.length < sizeLine∧∃ N:List V→St→Hp→Prop,(∀ ys' τ' H',N ys' τ' H'→∃ m',m' < m∧W (i+1) m' ys' τ' H') ∧
        ∀ x H',J.yld i H x H'→g x τ H' fun τ2 H2=>tAll τ2 H2 fun b H3=>if b=true then te τ2 H3 (fun y H4=>N (ys++[y]) τ2 H4) else N ys τ2 H3) :=
  comp_by S hz Pv h0 hl (fun i x ys τ H e p=>by
    have:=hs i x ys τ H e p
    have e2:(fun (τ2:St) (H2:Hp)=>tAll τ2 H2 fun b H3=>if b=true then te τ2 H3 (fun y H4=>Pv (i+1) (ys++[y]) τ2 H4) else Pv (i+1) ys τ2 H3)=fun τ2 H2=>te τ2 H2 (fun y H4=>Pv (i+1) (ys++[y]) τ2 H4):=by
      funext τ2 H2
      unfold tAll
      exact if_pos rfl
    rw [e2]
    exact this) hd
theorem comp_all2 {J:It} {xs:List (List V)} {ok:Hp→Prop} {g:TG} {te:TE} {Q:VK} {τ0:St} {H:Hp} (S:Sure2 J xs ok) (hz:xs.length≤10000) (Pv:Nat→List V→St→Hp→Prop) (h0:Pv 0 [] τ0 H)
    (hl:∀ i ys τ H,i≤xs.length→Pv i ys τ H→ok H∧ys.length≤i)
    (hs:∀ i zs ys τ H T,xs[i]? = some zs→Pv i ys τ H→H T=none→g (.ref T) τ (upd H T (.tup zs)) fun τ2 H2=>te τ2 H2 (fun y H4=>Pv (i+1) (ys++[y]) τ2 H4))
    (hd:∀ ys τ H D,Pv xs.length ys τ H→H D=none→Q (.ref D) (upd H D (.lst ys))) :
    ∃ W:Nat→Nat→List V→St→Hp→Prop,(∃ m,W 0 m [] τ0 H)∧∀ i m ys τ H,W i m ys τ H →
      (J.stop i H∧∀ D,H D=none→Q (.ref D) (upd H D (.lst ys))) ∨
      (J.go i H∧ys.length < sizeLine∧∃ N:List V→St→Hp→Prop,(∀ ys' τ' H',N ys' τ' H'→∃ m',m' < m∧W (i+1) m' ys' τ' H') ∧
        ∀ x H',J.yld i H x H'→g x τ H' fun τ2 H2=>tAll τ2 H2 fun b H3=>if b=true then te τ2 H3 (fun y H4=>N (ys++[y]) τ2 H4) else N ys τ2 H3) :=
  comp_by2 S hz Pv h0 hl (fun i zs ys τ H T e p hT=>by
    have:=hs i zs ys τ H T e p hT
    have e2:(fun (τ2:St) (H2:Hp)=>tAll τ2 H2 fun b H3=>if b=true then te τ2 H3 (fun y H4=>Pv (i+1) (ys++[y]) τ2 H4) else Pv (i+1) ys τ2 H3)=fun τ2 H2=>te τ2 H2 (fun y H4=>Pv (i+1) (ys++[y]) τ2 H4):=by
      funext τ2 H2
      unfold tAll
      exact if_pos rfl
    rw [e2]
    exact this) hd
end L2
namespace L2
open PySem PySem.Spec PyProof.Rows
section
variable {X:Cx}
theorem vals_by:∀ {xs:List V} {us:List Value},xs.length=us.length→(∀ (i:Nat) x u,xs[i]? = some x→us[i]? = some u→RelV x u)→Vals xs us
  | [],[],_,_=>.nil
  | [],_ :: _,h,_=>by cases h
  | _ :: _,[],h,_=>by cases h
  | x :: xs,u :: us,h,k=>.cons (k 0 x u rfl rfl) (vals_by (Nat.succ.inj h) fun i y v e1 e2=>k (i+1) y v e1 e2)
theorem ObjOk.there {P:Program} {w:World} {H:Hp} {h:Heap} {a:Addr} {o:HO} (x:ObjOk P w H h a o):∃ ob,h.get? a=some ob:=by
  cases o with
  | lst xs=>obtain ⟨_,_,_,_,e⟩:=x;exact ⟨_,e⟩
  | tup xs=>obtain ⟨_,_,_,⟨ob,e,_⟩,_⟩:=x;exact ⟨_,e⟩
  | dK kvs=>obtain ⟨_,_,_,_,ob,_,_,e,_⟩:=x;exact ⟨_,e⟩
  | dT kvs=>obtain ⟨_,_,_,_,ob,_,_,e,_⟩:=x;exact ⟨_,e⟩
  | set S n=>obtain ⟨ob,_,_,_,e,_⟩:=x;exact ⟨_,e⟩
  | ins C dx fs=>obtain ⟨_,_,_,e,_⟩:=x;exact ⟨_,e⟩
  | own _=>exact x
  | xd fs=>obtain ⟨mA,⟨ob,_,_,e,_⟩,_⟩:=x;exact ⟨_,e⟩
  | rng lo hi=>obtain ⟨_,_,_,e⟩:=x;exact ⟨_,e⟩
  | frz ob u=>exact ⟨_,x.1⟩
  | tbl ps=>exact ⟨_,x⟩
  | met f y=>exact ⟨_,x⟩
  | ext φ=>exact x.2.1
theorem call_sum (hc:X.calm=true):CallR X (.builtin "sum") (fun xs H Q=>∃ (l:Addr) (ns:List Int),xs=[.ref l]∧SqL X.K H l (ns.map V.int)∧Q (.int ns.sum) H):=by
  intro pins s σ H xs us Q I r h
  obtain ⟨l,ns,rfl,hq,q⟩:=h
  obtain ⟨u,rfl,ru⟩:=vals1 r
  cases ru
  obtain ⟨its,r',pl,_⟩:=I.list hq
  obtain ⟨m,F⟩:=I.fr
  have hi:=intsAre_of r'
  obtain ⟨xs,e⟩:=hi.allInts.items
  have hl:s.heap.IsList l (intItems xs):=by rw [← e];exact pl.isList
  refine sum_intListG (I.ok.hd hc) hl fun h' tk t' hk=>?_
  have es:preSum (numAt xs) xs.size=ns.sum:=by
    have:=hi.numsOf
    rw [show its=(intItems xs).toList by rw [← e]] at this
    rw [nums_intItems] at this
    rw [preSum_eq,List.take_of_length_le (by simp),this]
  rw [es]
  exact ⟨.int _,H,I.kept hk,⟨t',rfl⟩,q⟩
theorem call_isinst:CallR X (.builtin "isinstance") (fun xs H Q=>∃ x T t b,xs=[x,.ty T]∧TyOf X.K H x t∧PySem.W.kitOne X.K t (.type T)=some b∧Q (.bl b) H):=by
  intro pins s σ H xs us Q I r h
  obtain ⟨x,T,t,b,rfl,ty,e,q⟩:=h
  obtain ⟨u,v,rfl,ru,rv⟩:=vals2 r
  cases (show v=Value.type T from rv)
  exact isinst_ok I ru ty e fun tk=>⟨.bl b,H,I.tok _,rfl,q⟩
end
end L2
namespace L2
open PySem PySem.Spec PyProof.Rows
theorem comp_core {X:Cx} {pins:List (Addr × Obj)} {s:Shared} {σ:St} {H:Hp} {Q:VK} {use:Option (Value→Sem Unit)} {Q':Value→Shared→Prop} {cpos:Pos} {tg iter elt:Expr} {ifs:List Expr} {scope:Scope} {pos:Pos} {N':List Str} {ix:List (Option Nat)} {wi:TI} {g:TG} {tc:TT} {te:TE}
    (hc:X.calm=true) (chk:compChk X scope N' ix=true) (hi:PI X tg iter wi)
    (hg:∀ cells C s₀ H₀ ex pn,PG (compCx X scope N' cells C s₀ H₀ ex pn) tg g)
    (ht:∀ cells C s₀ H₀ ex pn,PTs (compCx X scope N' cells C s₀ H₀ ex pn) ifs tc)
    (he:∀ cells C s₀ H₀ ex pn,PE (compCx X scope N' cells C s₀ H₀ ex pn) elt te)
    (hs:∀ x,foldedSetIterable iter X.env x=pure x) (I:Inv X pins σ H s) (h:tComp ix wi g tc te σ H Q)
    (hend:∀ (s2 s4:Shared) (H2 H3:Hp) (C D:Addr) (fp:List Addr) (cells:List (Str × Addr)) (τ:St) (ys:List V) (its:List Value) (k:Nat),Inv X pins σ H2 s2→(∀ b∈fp,FpOk X pins H2 b) →
      Inv (compCx X scope N' cells C s2 H2 fp []) [(D,lobj its k)] τ H3 s4→s2.heap.objs.size≤C→s2.heap.objs.size≤D→D≠C→Vals ys its→ys.length≤sizeLine→Q (.ref D) (upd H3 D (.lst ys)) →
      compPost (model X.prog X.w) X.A X.xe use Q' (.ref D) C (.ok .next) s4) :
    wpAny (model X.prog X.w) X.A (comprehension (.ListComp elt [⟨tg,iter,ifs,0⟩] scope pos) scope X.env cpos (newList []) false (eval iter X.env) use) Q' X.xe s:=by
  unfold compChk at chk
  obtain ⟨chk,k5⟩:=Bool.and_eq_true_iff.mp chk
  obtain ⟨chk,k4⟩:=Bool.and_eq_true_iff.mp chk
  obtain ⟨chk,k3⟩:=Bool.and_eq_true_iff.mp chk
  obtain ⟨k1,k2⟩:=Bool.and_eq_true_iff.mp chk
  have c1:∀ p∈scope.names,scope.names.lookup p.1=some p.2:=fun p hp=>by simpa using List.all_eq_true.mp k1 p hp
  have c2:∀ p∈scope.names,p.2=.free→X.env.scope.names.lookup p.1=some .cell∨X.env.scope.names.lookup p.1=some .free:=fun p hp hf=>by
    have:=List.all_eq_true.mp k2 p hp
    rw [hf] at this
    simpa using this
  have c3:ix.length=N'.length:=by simpa using k3
  have ck:scope.kind=.function:=by simpa using k5
  have c4:∀ (i:Nat) (x:Str) (j:Nat),N'[i]? = some x→ix[i]? = some (some j)→X.N[j]? = some x∧scope.names.lookup x=some .free:=fun i x j e1 e2=>by
    have m:(x,some j)∈N'.zip ix:=by
      refine List.mem_of_getElem? (i:=i) ?_
      rw [List.getElem?_zip_eq_some]
      exact ⟨e1,e2⟩
    have:=List.all_eq_true.mp k4 _ m
    have:=Bool.and_eq_true_iff.mp this
    exact ⟨by simpa using this.1,by simpa using this.2⟩
  obtain ⟨cl,ecl,cl1,cl2⟩:=closure_ok (env:=X.env) (scope:=scope) (fun p hp hf=>I.ok.has p.1 (c2 p hp hf))
  refine wpAny_comprehension_free (use:=use) rfl hs ecl ck (fun y hy hl=>by rw [c1 y hy,hl]) (thn (hi pins s σ H _ I h) fun v s1 h1=>thn h1 fun itv s2 h2=>?_)
  obtain ⟨it,fp,tn,J,H2,e,I2,T,st2,f2,W,⟨m0,w0⟩,turn⟩:=h2
  subst e
  have I5:=comp_inv (N':=N') (ix:=ix) (fp:=fp) c1 c3 c2 c4 ck cl1 cl2 I2 f2 (T.obj _ _ st2)
  refine wpAny_newObj_type ?_
  unfold newFunctionEnv
  refine wpAny_bind (wpAny_alloc ?_)
  refine wpAny_bind (wpAny_layCells _ (fun name kind cells=>by cases hkc:kind == NameKind.cell <;> simp [hkc]) _ _ _ _ ?_)
  refine wpAny_bind ?_
  rw [List.forIn_nil]
  refine wpAny_pure (wpAny_pure ?_)
  have sz3:(s2.heap.push (lobj [] 0)).objs.size=s2.heap.objs.size+1:=Heap.size_push ..
  have sz4:((s2.heap.push (lobj [] 0)).push { cls:=.type "dict",data:=.dict #[] }).objs.size=s2.heap.objs.size+2:=by rw [Heap.size_push,sz3]
  show codeAny (model X.prog X.w) X.A (.compStart (.ListComp elt [⟨tg,iter,ifs,0⟩] scope pos) 0 (.ref it) (.ref s2.heap.objs.size)
    (compCx X scope N' (cellsFrom ((s2.heap.push (lobj [] 0)).push { cls:=.type "dict",data:=.dict #[] }).objs.size scope.names cl) (s2.heap.push (lobj [] 0)).objs.size s2 H2 fp []).env)
    (compPost (model X.prog X.w) X.A X.xe use Q' (.ref s2.heap.objs.size) (s2.heap.push (lobj [] 0)).objs.size)
    { s2 with heap:=pushCells ((s2.heap.push (lobj [] 0)).push { cls:=.type "dict",data:=.dict #[] }) scope.names }
  rw [sz4,sz3]
  generalize hcells:cellsFrom (s2.heap.objs.size+2) scope.names cl=cells at I5 ⊢
  have keep5:∀ b o,s2.heap.get? b=some o→(pushCells ((s2.heap.push (lobj [] 0)).push { cls:=.type "dict",data:=.dict #[] }) scope.names).get? b=some o:=fun b o e =>
    pushCells_keeps _ _ b o (Heap.get?_push_of_some _ (Heap.get?_push_of_some _ e))
  generalize hh5:({ s2 with heap:=pushCells ((s2.heap.push (lobj [] 0)).push { cls:=.type "dict",data:=.dict #[] }) scope.names }:Shared)=s5 at I5 ⊢
  have keep5:∀ b o,s2.heap.get? b=some o→s5.heap.get? b=some o:=by rw [← hh5];exact keep5
  have st5:tn 0 s5.heap:=T.keep _ _ _ st2 fun b hb o e=>keep5 b o e
  have lt2:∀ (b:Nat),b∈fp→b < s2.heap.objs.size:=fun b hb=>by
    obtain ⟨o,e,_⟩:=T.obj _ _ st2 b hb
    exact Heap.lt_size e
  -- the iterator within the block
  have stat:∀ {H':Hp} {o:Obj},(∀ b∈fp,H' b=none)→∀ b∈fp,FpOk (compCx X scope N' cells (s2.heap.objs.size+1) s2 H2 fp []) [(s2.heap.objs.size,o)] H' b:=fun {H' o} hn b hb =>
    ⟨hn b hb,(I5.ok.exf b hb).1,I5.ok.exfs b hb,.inl hb,(I5.ok.exf b hb).2,fun p hp=>by
      have e:p=(s2.heap.objs.size,o):=by simpa using hp
      subst e
      exact Nat.ne_of_gt (lt2 b hb)⟩
  have loop:codeAny (model X.prog X.w) X.A (.compLoop (.ListComp elt [⟨tg,iter,ifs,0⟩] scope pos) 0 (.ref it) (.ref s2.heap.objs.size)
      (compCx X scope N' cells (s2.heap.objs.size+1) s2 H2 fp []).env) (compPost (model X.prog X.w) X.A X.xe use Q' (.ref s2.heap.objs.size) (s2.heap.objs.size+1)) s5:=by
    refine compLoop_go (fun n s'=>∃ i ys τ H' its k,Inv (compCx X scope N' cells (s2.heap.objs.size+1) s2 H2 fp []) [(s2.heap.objs.size,lobj its k)] τ H' s'∧tn i s'.heap∧(∀ b∈fp,H' b=none)∧Vals ys its∧ys.length≤sizeLine∧W i n ys τ H') ?_ m0
      ⟨0,[],_,H2,[],0,I5,st5,fun b hb=>(f2 b hb).1,.nil,Nat.zero_le _,w0⟩
    rintro n s3 ⟨i,ys,τ,H3,its,k,I3,st3,fr3,hv3,hz3,w3⟩
    rcases turn i n ys τ H3 w3 with ⟨stop,qn⟩ | ⟨go,hlen,N,hN,step⟩
    · refine thn (T.done (compCx X scope N' cells (s2.heap.objs.size+1) s2 H2 fp []) rfl rfl rfl hc i _ s3 τ H3 (fun _ _=>False) I3 (stat fr3) st3 stop) fun r s4 ⟨hr,I4⟩=>?_
      subst hr
      obtain ⟨eD,nD,_,_,_⟩:=I4.pin (s2.heap.objs.size,lobj its k) (by simp)
      exact hend s2 s4 H2 H3 _ _ fp cells τ ys its k I2 f2 I4 (Nat.le_succ _) (Nat.le_refl _) (Nat.ne_of_lt (Nat.lt_succ_self _)) hv3 hz3 (qn _ nD)
    · refine thn (T.item (compCx X scope N' cells (s2.heap.objs.size+1) s2 H2 fp []) rfl rfl rfl hc i _ s3 τ H3 (fun _ _=>False) I3 (stat fr3) st3 go) fun r s4 ⟨u,hr,h4⟩=>?_
      subst hr
      refine thn h4 fun _ s5' ⟨x,H5,I5',r5,y5,st5',fr5⟩=>?_
      have I6:=I5'.pinned (stat fr5) (T.obj _ _ st5')
      refine thn (hg cells _ s2 H2 fp [] _ s5' τ H5 x u _ I6 r5 (step x H5 y5)) fun _ s6 ⟨τ6,H6,I7,q6⟩=>?_
      refine thn (ht cells _ s2 H2 fp [] _ s6 τ6 H6 _ I7 q6) fun ok s7 ⟨H7,I8,q7⟩=>?_
      have fin:∀ {s8:Shared} {H8:Hp} {its':List Value} {k':Nat} {ys':List V},Inv (compCx X scope N' cells (s2.heap.objs.size+1) s2 H2 fp []) ([(s2.heap.objs.size,lobj its' k')]++pinsAt fp s5'.heap) τ6 H8 s8→Vals ys' its'→ys'.length≤sizeLine→N ys' τ6 H8 →
          ∃ m,m < n∧∃ i ys τ H' its k,Inv (compCx X scope N' cells (s2.heap.objs.size+1) s2 H2 fp []) [(s2.heap.objs.size,lobj its k)] τ H' s8∧tn i s8.heap∧(∀ b∈fp,H' b=none)∧Vals ys its∧ys.length≤sizeLine∧W i m ys τ H':=fun {s8 H8 its' k' ys'} I9 hv hz n9=>by
        obtain ⟨m',hm,w9⟩:=hN ys' τ6 H8 n9
        refine ⟨m',hm,i+1,ys',τ6,H8,its',k',I9.unpinned,T.keep _ _ _ st5' fun b hb o e=>(I9.pin (b,o) (List.mem_append_right _ (List.mem_append_right _ (mem_pinsAt hb e)))).1,fun b hb=>?_,hv,hz,w9⟩
        obtain ⟨o,e,d⟩:=T.obj _ _ st5' b hb
        exact (I9.pin (b,o) (List.mem_append_right _ (List.mem_append_right _ (mem_pinsAt hb e)))).2.1
      cases ok with
      | false=>exact fin I8 hv3 hz3 q7
      | true =>
        refine thn (he cells _ s2 H2 fp [] _ s7 τ6 H7 _ I8 q7) fun y s8 ⟨v8,H8,I9,r8,q8⟩=>?_
        obtain ⟨eD,nD,dL,dF,_⟩:=I9.pin (s2.heap.objs.size,lobj its k) (by simp)
        have hl:=hv3.length
        refine append_un (X:=X) (τ:=τ) (H':=H8) (by omega) eD fun h' k' eD' kp=>?_
        -- the pin on the list is let go,the list turns,and is pinned anew
        have hx:∀ p∈pinsAt fp s5'.heap,p.1≠s2.heap.objs.size:=fun p hp=>by
          have:=lt2 p.1 (of_pinsAt hp).1
          exact Nat.ne_of_lt this
        have J1:Inv (compCx X scope N' cells (s2.heap.objs.size+1) s2 H2 fp []) (pinsAt fp s5'.heap) τ6 H8 s8:=I9.pins_of fun p hp=>I9.pin p (List.mem_append_right _ (List.mem_append_right _ hp))
        have J2:Inv (compCx X scope N' cells (s2.heap.objs.size+1) s2 H2 fp []) (pinsAt fp s5'.heap) τ6 H8 { s8 with heap:=h' }:=J1.turned (t':=s8.toks) (it:=s2.heap.objs.size) kp nD dL (.inr (Nat.le_refl _)) (fun x c e z=>by
          obtain ⟨v,o,ho,hd⟩:=J1.cell x c e
          rw [z,eD] at ho
          cases ho
          cases hd) fun p hp=>hx p (by simpa using hp)
        have J3:Inv (compCx X scope N' cells (s2.heap.objs.size+1) s2 H2 fp []) ([(s2.heap.objs.size,lobj (its++[y]) k')]++pinsAt fp s5'.heap) τ6 H8 { s8 with heap:=h' }:=J2.pins_of fun p hp=>by
          rcases List.mem_append.mp hp with z | z
          · have e:p=(s2.heap.objs.size,lobj (its++[y]) k'):=by simpa using z
            subst e
            exact ⟨eD',nD,dL,dF,fun v z=>by cases z⟩
          · exact J2.pin p (List.mem_append_right _ z)
        exact fin J3 (hv3.append (.cons r8 .nil)) (by rw [List.length_append,List.length_singleton];omega) q8
  exact codeAny_compStart_list loop (T.self X.A 0 s5 _ _ st5 loop)
theorem ps_setC {X:Cx} {tg iter elt:Expr} {ifs:List Expr} {scope:Scope} {pos px spos:Pos} {N':List Str} {ix:List (Option Nat)} {wi:TI} {g:TG} {tc:TT} {te:TE} {i:Nat} {x:Str}
    (hN:X.N.Nodup) (hi0:X.N[i]? = some x) (hx:X.env.scope.names.lookup x=some .local)
    (hc:X.calm=true) (chk:compChk X scope N' ix=true) (hi:PI X tg iter wi)
    (hg:∀ cells C s₀ H₀ ex pn,PG (compCx X scope N' cells C s₀ H₀ ex pn) tg g)
    (ht:∀ cells C s₀ H₀ ex pn,PTs (compCx X scope N' cells C s₀ H₀ ex pn) ifs tc)
    (he:∀ cells C s₀ H₀ ex pn,PE (compCx X scope N' cells C s₀ H₀ ex pn) elt te)
    (hs:∀ x,foldedSetIterable iter X.env x=pure x:=by intro _;rfl)
    (hsw:swapsWith (.ListComp elt [⟨tg,iter,ifs,0⟩] scope pos) (some (.Name x px)) spos.line X.env=pure true:=by rfl) :
    PS X (.Assign [.Name x px] (.ListComp elt [⟨tg,iter,ifs,0⟩] scope pos) spos) (fun D σ H=>tComp ix wi g tc te σ H fun v H1=>D.nx (σ.set i (some v)) H1):=by
  intro pins s σ H D I h
  rw [exec_Assign_Name_used _ _ _ _ hsw]
  refine wpAny_bind (wpAny_standAt (wpAny_bind ?_))
  show wpAny _ X.A (comprehension (.ListComp elt [⟨tg,iter,ifs,0⟩] scope pos) scope X.env _ (newList []) false (eval iter X.env) (some (assign (.Name x px) X.env)) >>= fun _=>pure ()) _ _ s
  refine wpAny_bind (wpAny_mono (comp_core (use:=some (assign (.Name x px) X.env)) (Q':=fun _ s'=>SP X pins D .next s') hc chk hi hg ht he hs I h ?_) (fun _ s' hq=>wpAny_pure (wpAny_pure hq)) fun _ _ e=>e)
  intro s2 s4 H2 H3 C Da fp cells τ ys its k I2 f2 I4 hC hD hDC hv hz q
  obtain ⟨eD,nD,_,_,_⟩:=I4.pin (Da,lobj its k) (by simp)
  have I5:Inv X pins σ (upd H3 Da (.lst ys)) s4:=comp_end I2 f2 I4 hC hD hDC nD eD hv hz (Heap.SameBut.refl _ _)
  show wpAny _ X.A (assign (.Name x px) X.env (.ref Da)) _ _ s4
  refine wpAny_assign_Name (store_ok2 I5 hN hi0 (.inl hx) (show RelV (.ref Da) (.ref Da) from rfl) (fun s6 I6 ⟨a,sb,ha⟩=>?_) (.inr hx))
  obtain ⟨m,hn,_⟩:=I4.loc
  have neL:C≠X.env.locals:=Nat.ne_of_gt (Nat.lt_of_lt_of_le I2.lt hC)
  have cne:∀ y c,X.env.cells.lookup y=some c→c≠C:=fun y c e=>by
    obtain ⟨v,z⟩:=I2.cell y c e
    exact Nat.ne_of_lt (Nat.lt_of_lt_of_le z.lt hC)
  have nea:C≠a:=by
    rcases ha with e | e
    · rw [e];exact neL
    · exact (cne x a e).symm
  refine ⟨m,hn.sameBut sb nea,fun h' sb'=>⟨σ.set i (some (.ref Da)),upd H3 Da (.lst ys),?_,q⟩⟩
  have nC:upd H3 Da (.lst ys) C=none:=by rw [upd_ne hDC.symm];exact I4.free
  refine I6.turned (t':=s6.toks) (it:=C) (fun b o hb e=>(sb'.2 b hb).trans e) nC neL (.inr (Nat.le_trans I2.sz hC)) cne fun p hp z=>?_
  have:=Heap.lt_size (I2.pin p hp).1
  rw [z] at this
  exact absurd (Nat.lt_of_lt_of_le this hC) (Nat.lt_irrefl _)
end L2
namespace L2
open PySem PySem.Spec PyProof.Rows
theorem op_mulB {X:Cx}:OpR X (binaryOp .Mult) (rI (fun i j=>Builtin.Int.intBits i≤2 ^ 20∧Builtin.Int.intBits j≤2 ^ 20) fun i j=>.int (i * j)):=opI fun _ _ _ _ _ _ _ hc q=>mul_int q (IntMulOk.of_bits hc.1 hc.2)
end L2
namespace L2
open PySem PySem.Spec PyProof.Rows
theorem comp_allR {J:It} {xs:List V} {ok:Hp→Prop} {g:TG} {te:TE} {R:Addr→List V→Hp→Prop} {τ0:St} {H:Hp} (S:Sure J xs ok) (hz:xs.length≤10000) (Pv:Nat→List V→St→Hp→Prop) (h0:Pv 0 [] τ0 H)
    (hl:∀ i ys τ H,i≤xs.length→Pv i ys τ H→ok H∧ys.length≤i)
    (hs:∀ i x ys τ H,xs[i]? = some x→Pv i ys τ H→g x τ H fun τ2 H2=>te τ2 H2 (fun y H4=>Pv (i+1) (ys++[y]) τ2 H4))
    (hd:∀ ys τ H D,Pv xs.length ys τ H→H D=none→R D ys H) :
    ∃ W:Nat→Nat→List V→St→Hp→Prop,(∃ m,W 0 m [] τ0 H)∧∀ i m ys τ H,W i m ys τ H →
      (J.stop i H∧∀ D,H D=none→R D ys H) ∨
      (J.go i H∧ys.length < sizeLine∧∃ N:List V→St→Hp→Prop,(∀ ys' τ' H',N ys' τ' H'→∃ m',m' < m∧W (i+1) m' ys' τ' H') ∧
        ∀ x H',J.yld i H x H'→g x τ H' fun τ2 H2=>tAll τ2 H2 fun b H3=>if b=true then te τ2 H3 (fun y H4=>N (ys++[y]) τ2 H4) else N ys τ2 H3):=by
  refine ⟨fun i m ys τ H=>m=xs.length - i∧i≤xs.length∧Pv i ys τ H,⟨xs.length,by simp,Nat.zero_le _,h0⟩,?_⟩
  rintro i m ys τ H ⟨rfl,hi,p⟩
  obtain ⟨q,hy⟩:=hl i ys τ H hi p
  by_cases hlt:i < xs.length
  · refine .inr ⟨S.go i H hlt q,Nat.lt_of_lt_of_le (show ys.length < 10000 by omega) (by decide),Pv (i+1),fun ys' τ' H' p'=>⟨xs.length - (i+1),by omega,rfl,hlt,p'⟩,fun x H' y=>?_⟩
    obtain ⟨e,y'⟩:=S.yld i H x H' hlt q y
    subst e
    have e2:(fun (τ2:St) (H2:Hp)=>tAll τ2 H2 fun b H3=>if b=true then te τ2 H3 (fun y H4=>Pv (i+1) (ys++[y]) τ2 H4) else Pv (i+1) ys τ2 H3)=fun τ2 H2=>te τ2 H2 (fun y H4=>Pv (i+1) (ys++[y]) τ2 H4):=by
      funext τ2 H2
      unfold tAll
      exact if_pos rfl
    rw [e2]
    exact hs i x ys τ _ y' p
  · have e:i=xs.length:=by omega
    subst e
    exact .inl ⟨S.stop H q,fun D hD=>hd ys τ H D p hD⟩
end L2
namespace L2
open PySem PySem.Spec PyProof.Rows
section
variable {X:Cx} (K:PySem.W.Frag)
theorem pi_listK {tg l:Expr} {tl:TE} (hl:PE X l tl) (hK:X.K=K:=by rfl):PI X tg l (iList K tl):=by subst hK;exact pi_list hl
theorem ix_listK (hK:X.K=K:=by rfl):IxR X (rIxL K):=by subst hK;exact ix_list
theorem ix_tupK (hK:X.K=K:=by rfl):IxR X (rIxT K):=by subst hK;exact ix_tup
theorem sl_listK (hK:X.K=K:=by rfl):SlR X (rSlL K):=by subst hK;exact sl_list
def rLen (K:PySem.W.Frag):List V→Hp→VK→Prop:=fun xs H Q=>∃ p ys,xs=[.ref p]∧(SqL K H p ys∨SqT K H p ys)∧Q (.int ys.length) H
theorem call_lenK (hK:X.K=K:=by rfl):CallR X (.builtin "len") (rLen K):=by subst hK;exact call_len_seq
def rSum (K:PySem.W.Frag):List V→Hp→VK→Prop:=fun xs H Q=>∃ (l:Addr) (ns:List Int),xs=[.ref l]∧SqL K H l (ns.map V.int)∧Q (.int ns.sum) H
theorem call_sumK2 (hc:X.calm=true) (hK:X.K=K:=by rfl):CallR X (.builtin "sum") (rSum K):=by subst hK;exact call_sum hc
def rIsi (K:PySem.W.Frag):List V→Hp→VK→Prop:=fun xs H Q=>∃ x T t b,xs=[x,.ty T]∧TyOf K H x t∧PySem.W.kitOne K t (.type T)=some b∧Q (.bl b) H
theorem call_isinstK (hK:X.K=K:=by rfl):CallR X (.builtin "isinstance") (rIsi K):=by subst hK;exact call_isinst
def rListOf (K:PySem.W.Frag):List V→Hp→VK→Prop:=fun xs H Q=>∃ p ys,xs=[.ref p]∧(SqL K H p ys∨SqT K H p ys)∧∀ l,H l=none→Q (.ref l) (upd H l (.lst ys))
theorem call_list_ofK (hK:X.K=K:=by rfl):CallR X (.type "list") (rListOf K):=by subst hK;exact call_list_of
def rTupOf (K:PySem.W.Frag):List V→Hp→VK→Prop:=fun xs H Q=>∃ p ys,xs=[.ref p]∧((SqL K H p ys∧∀ l,H l=none→Q (.ref l) (upd H l (.tup ys)))∨(SqT K H p ys∧Q (.ref p) H))
theorem call_tuple_ofK (hK:X.K=K:=by rfl):CallR X (.type "tuple") (rTupOf K):=by subst hK;exact call_tuple_of
def tTru (K:PySem.W.Frag) (ta:TE):TT:=fun σ H Q=>ta σ H fun x H'=>∃ k,TruV K x H' k∧Q k H'
theorem pt_truthK {a:Expr} {ta:TE} (ha:PE X a ta) (he:∀ whole,isTrue a X.env whole=(do let v ← whole;standAt a.pos;holding [v] (truthy v))) (hK:X.K=K:=by rfl):PT X a (tTru K ta):=by subst hK;exact pt_truth ha he
theorem pg_tupK {es:List Expr} {k:Nat} {t:TGs} {n:Nat} {pos:Pos} (hc:X.calm=true) (h:PGs X es t) (hn:(assignEach es X.env).length=n:=by rfl) (hst:(assignEach es X.env).findIdx? (·.1)=none:=by rfl) (hK:X.K=K:=by rfl):PG X (.Tuple es k pos) (gTup K n t):=by
  subst hK;exact pg_tup hc h hn hst
theorem pi_zipK {l l':Expr} {ta:TA} {elts:List Expr} {k:Nat} {tp p pos:Pos} (hg:Gl X "zip") (hm:X.mg "zip" = none) (hl:PA X [l,l'] ta) (hs:starEach [l,l'] X.env=[(false,eval l X.env),(false,eval l' X.env)]:=by rfl) (hs2:starEach [l'] X.env=[(false,eval l' X.env)]:=by rfl) (hK:X.K=K:=by rfl) :
    PI X (.Tuple elts k tp) (.Call (.Name "zip" p) [l,l'] [] pos) (iZip K ta):=by
  subst hK;exact pi_zip hg hm hl hs hs2
theorem pe_bmK {o e:Expr} {es:List Expr} {to:TE} {t:TA} {name:Str} {apos cpos:Pos} {T id:String} {r:V→List V→Hp→VK→Prop} (pa:PlainAttrs T) (slot:Slot T name id) (hty:typeOf (.builtin id)=pure (.type "method_descriptor")) (hm:MtR X id r) (ho:PE X o to) (ha:PA X (e :: es) t)
    (hbase:attributeBase o name X.env (eval o X.env)=eval o X.env:=by rfl)
    (hfew:((backTo cpos (starEach (e :: es) X.env)).all (fun x=>!x.1) && (backToKw cpos (keywordEach [] X.env)).all (fun x=>x.1.isSome) && decide ((e :: es).length+([]:List Keyword).length+(if ([]:List Keyword).isEmpty then 0 else 1) < 30))=true:=by rfl)
    (hline:(apos.endLine == cpos.line)=true:=by rfl) (hs:starEach (e :: es) X.env=(false,eval e X.env) :: starEach es X.env:=by rfl) (hplain:(backTo cpos (starEach es X.env)).any (·.1)=false:=by rfl) (hK:X.K=K:=by rfl) :
    PE X (.Call (.Attribute o name apos) (e :: es) [] cpos) (tBM K T r to t):=by
  subst hK;exact pe_bm pa slot hty hm ho ha hbase hfew hline hs hplain
end
def CDivB (i j:Int):Prop:=0 < j∧j≤100000000000000000000000000000000000000000000000000000000000000000000000000000000
theorem op_fdivB {X:Cx}:OpR X (binaryOp .FloorDiv) (rI CDivB fun i j=>.int (i / j)):=opI fun i j _ _ _ _ _ hc q=>by
  rw [← Int.fdiv_eq_ediv_of_nonneg i (Int.le_of_lt hc.1)] at q
  refine floordiv_int (by have:=hc.1;omega) q (.inl (PyProof.noPylong_of_log2 ?_))
  obtain ⟨h1,h2⟩:=hc
  have h0:j.natAbs≠0:=by omega
  have h3:j.natAbs < 2 ^ 300:=Nat.lt_of_le_of_lt (show j.natAbs≤100000000000000000000000000000000000000000000000000000000000000000000000000000000 by omega) (by decide +kernel)
  exact Nat.lt_trans ((Nat.log2_lt h0).mpr h3) (by decide)
end L2
namespace L2
open PySem PySem.Spec PyProof.Rows
inductive PairsAt (H:Hp):List Addr→List (Key × V)→Prop where
  | nil:PairsAt H [] []
  | cons {p:Addr} {ps:List Addr} {k:Key} {v:V} {kvs:List (Key × V)}:H p=some (.tup [kV k,v])→PairsAt H ps kvs→PairsAt H (p :: ps) ((k,v) :: kvs)
theorem PairsAt.len {H:Hp}:∀ {ps:List Addr} {kvs:List (Key × V)},PairsAt H ps kvs→ps.length=kvs.length
  | _,_,.nil=>rfl
  | _,_,.cons _ r=>congrArg (· + 1) r.len
theorem PairsAt.mem {H:Hp}:∀ {ps:List Addr} {kvs:List (Key × V)},PairsAt H ps kvs→∀ p∈ps,∃ o,H p=some o
  | _,_,.nil,p,h=>by simp at h
  | _,_,.cons e r,p,h=>by
    rcases List.mem_cons.mp h with z | z
    · rw [z];exact ⟨_,e⟩
    · exact r.mem p z
end L2
namespace L2
open PySem PySem.Spec PyProof.Rows
end L2
namespace L2
open PySem PySem.Spec PyProof.Rows
section
variable {P:Program} {w:World} {A:Around} {E:Value→Shared→Prop} {s:Shared}
end
structure Src (P:Program) (w:World) (it sq:Addr) (xs:Array Value) (St:Nat→Heap→Prop):Prop where
  keep:∀ k h h',St k h→(∀ b,b=it∨b=sq→∀ o,h.get? b=some o→h'.get? b=some o)→St k h'
  obj:∀ k h,St k h→∃ o vs,h.get? it=some o∧o.data=.fields vs
  item:∀ (A:Around) (E:Value→Shared→Prop) (k:Nat) (s:Shared) (x:Value) (Q:Value→Shared→Prop),St k s.heap→xs[k]? = some x →
    (∀ h',St (k+1) h'→Heap.SameBut it s.heap h'→Q x { s with heap:=h' })→wpAny (model P w) A (Builtin.SmallTypes.nextOf (.ref it)) Q E s
  fin:∀ (A:Around) (E:Value→Shared→Prop) (k:Nat) (s:Shared) (Q:Value→Shared→Prop),A.handled=none→St k s.heap→xs[k]? = none →
    (∀ h' e,Heap.ExtBut it s.heap h'→(∃ o,h'.get? e=some o∧o.cls=.type "StopIteration")→E (.ref e) { s with heap:=h' })→wpAny (model P w) A (Builtin.SmallTypes.nextOf (.ref it)) Q E s
section
variable {P:Program} {w:World} {A:Around} {E:Value→Shared→Prop} {s:Shared} {z TI TO i1 i2 l1 l2:Addr} {xs ys:Array Value} {S1 S2:Nat→Heap→Prop}
end
def SqA (K:PySem.W.Frag) (H:Hp) (a:Addr) (xs:List V):Bool→Prop
  | true=>SqT K H a xs
  | false=>SqL K H a xs
def ItA (h:Heap) (it l:Addr) (k:Nat):Bool→Prop
  | true=>IsTupIter h it l k
  | false=>h.IsListIter it l k
def HasA (h:Heap) (l:Addr) (xs:Array Value):Bool→Prop
  | true=>IsTup h l xs
  | false=>h.IsList l xs
theorem ItA.at {h h':Heap} {it l:Addr} {k:Nat} (e:∀ o,h.get? it=some o→h'.get? it=some o):∀ {b:Bool},ItA h it l k b→ItA h' it l k b
  | true,x=>let ⟨o,ho,r⟩:=(show IsTupIter h it l k from x);⟨o,e o ho,r⟩
  | false,x=>let ⟨o,ho,r⟩:=(show h.IsListIter it l k from x);⟨o,e o ho,r⟩
theorem ItA.obj {h:Heap} {it l:Addr} {k:Nat}:∀ {b:Bool},ItA h it l k b→∃ o,h.get? it=some o∧o.data=.fields #[.ref l,.int k 0]∧(o.cls=.type "tuple_iterator"∨o.cls=.type "list_iterator")
  | true,x=>let ⟨o,ho,c,d⟩:=(show IsTupIter h it l k from x);⟨o,ho,d,.inl c⟩
  | false,x=>let ⟨o,ho,c,d⟩:=(show h.IsListIter it l k from x);⟨o,ho,d,.inr c⟩
theorem HasA.obj {h:Heap} {l:Addr} {xs:Array Value}:∀ {b:Bool},HasA h l xs b→∃ o,h.get? l=some o∧(o.cls=.type "tuple"∨o.cls=.type "list")∧∃ n,o.data=.seq xs n
  | true,x=>let ⟨o,ho,c,n,d⟩:=(show IsTup h l xs from x);⟨o,ho,.inl c,n,d⟩
  | false,x=>let ⟨o,ho,c,n,d⟩:=(show h.IsList l xs from x);⟨o,ho,.inr c,n,d⟩
theorem Inv.seqA {X:Cx} {pins:List (Addr × Obj)} {σ:St} {H:Hp} {s:Shared} {a:Addr} {xs:List V} (I:Inv X pins σ H s):∀ {b:Bool},SqA X.K H a xs b→∃ its:List Value,Vals xs its∧HasA s.heap a its.toArray b∧xs.length≤sizeLine
  | true,h=>let ⟨its,r,p,z⟩:=I.tuple h;⟨its,r,p,z⟩
  | false,h=>let ⟨its,r,p,z⟩:=I.list h;⟨its,r,p.isList,z⟩
theorem HasA.keep {h h':Heap} {l:Addr} {xs:Array Value} (e:∀ o,h.get? l=some o→h'.get? l=some o):∀ {b:Bool},HasA h l xs b→HasA h' l xs b
  | true,x=>let ⟨o,ho,r⟩:=(show IsTup h l xs from x);⟨o,e o ho,r⟩
  | false,x=>let ⟨o,ho,r⟩:=(show h.IsList l xs from x);⟨o,e o ho,r⟩
end L2
namespace L2
open PySem PySem.Spec PyProof.Rows
inductive VSame (K:PySem.W.Frag) (H:Hp):Nat→V→V→Prop where
  | flat {n:Nat} {x:V} (h:flatV x=true):VSame K H n x x
  | seq {n:Nat} {a b:Addr} {xs ys:List V} (t:Bool) (ha:SqA K H a xs t) (hb:SqA K H b ys t) (hl:xs.length=ys.length) (h:∀ (i:Nat) x y,xs[i]? = some x→ys[i]? = some y→VSame K H n x y):VSame K H (n+1) (.ref a) (.ref b)
theorem eqV_refl {x:V} (h:flatV x=true):eqV x x=true:=by
  cases x <;> first | (cases h;done) | (simp [eqV])
section
variable {X:Cx} {pins:List (Addr × Obj)} {σ:St} {H:Hp} {s:Shared}
theorem all_true (n:Nat):((List.range n).all fun _=>true)=true:=by simp
theorem items_same {n:Nat} {A:Around} {xs ys:List V} {i1 i2:List Value} (r1:Vals xs i1) (r2:Vals ys i2) (ih:∀ (i:Nat) x y u v,xs[i]? = some x→ys[i]? = some y→RelV x u→RelV y v→SeqAt.EqAt A s u v true) :
    ∀ j (h1:j < i1.toArray.size) (h2:j < i2.toArray.size),SeqAt.EqAt A s i1.toArray[j] i2.toArray[j] true:=fun j h1 h2=>by
  have l1:=r1.length
  have l2:=r2.length
  have h1':j < xs.length:=by simpa [l1] using h1
  have h2':j < ys.length:=by simpa [l2] using h2
  obtain ⟨u1,f1,g1⟩:=r1.get (List.getElem?_eq_getElem h1')
  obtain ⟨u2,f2,g2⟩:=r2.get (List.getElem?_eq_getElem h2')
  have k1:i1.toArray[j]=u1:=by
    have:=(List.getElem?_eq_some_iff.mp f1).2
    simpa using this
  have k2:i2.toArray[j]=u2:=by
    have:=(List.getElem?_eq_some_iff.mp f2).2
    simpa using this
  rw [k1,k2]
  exact ih j _ _ _ _ (List.getElem?_eq_getElem h1') (List.getElem?_eq_getElem h2') g1 g2
theorem rc_seq {A:Around} {t:Bool} {a b:Addr} {i1 i2:List Value} (p1:HasA s.heap a i1.toArray t) (p2:HasA s.heap b i2.toArray t) (hl:i1.length=i2.length) (hu:A.units < cLine)
    (h:∀ j (h1:j < i1.toArray.size) (h2:j < i2.toArray.size),SeqAt.EqAt A.in1 s i1.toArray[j] i2.toArray[j] true):SeqAt.RcAt A s (.ref a) (.ref b) true:=by
  cases t with
  | false =>
    have:=SeqAt.RcAt.lists (e:=fun _=>true) p1 p2 (by simpa using hl) hu h
    rwa [all_true] at this
  | true =>
    have:=SeqAt.RcAt.tuples (e:=fun _=>true) p1 p2 hu h
    rw [all_true] at this
    simpa [hl] using this
theorem rcne_seq {A:Around} {t:Bool} {a b:Addr} {i1 i2:List Value} (p1:HasA s.heap a i1.toArray t) (p2:HasA s.heap b i2.toArray t) (hl:i1.length=i2.length) (hu:A.units < cLine)
    (h:∀ j (h1:j < i1.toArray.size) (h2:j < i2.toArray.size),SeqAt.EqAt A.in1 s i1.toArray[j] i2.toArray[j] true):SeqAt.RcNeAt A s (.ref a) (.ref b) false:=by
  cases t with
  | false =>
    have:=SeqAt.RcNeAt.lists (e:=fun _=>true) p1 p2 (by simpa using hl) hu h
    rwa [all_true] at this
  | true =>
    have:=SeqAt.RcNeAt.tuples (e:=fun _=>true) p1 p2 hu h
    rw [all_true] at this
    simpa [hl] using this
theorem eq_deep (I:Inv X pins σ H s):∀ {n:Nat} {x y:V},VSame X.K H n x y→∀ {u v:Value} (A:Around),RelV x u→RelV y v→A.units+n < cLine→SeqAt.EqAt A s u v true:=by
  intro n x y h
  induction h with
  | flat h =>
    intro u v A ru rv _
    have:=eqAt_V (A:=A) (s:=s) ru rv h h
    rwa [eqV_refl h] at this
  | seq t ha hb hl h ih =>
    rename_i n a b xs ys
    intro u v A ru rv hu
    cases ru
    cases rv
    by_cases e:a=b
    · subst e
      exact SeqAt.EqAt.same _
    · obtain ⟨i1,r1,p1,_⟩:=I.seqA ha
      obtain ⟨i2,r2,p2,_⟩:=I.seqA hb
      refine SeqAt.EqAt.of_refs e (rc_seq p1 p2 (by rw [← r1.length,← r2.length,hl]) (by omega) (items_same (n:=n) r1 r2 fun i x y u v e1 e2 g1 g2=>ih i x y e1 e2 A.in1 g1 g2 ?_))
      show A.units+1+n < cLine
      omega
end
def rSameV (K:PySem.W.Frag) (b:Bool):R2:=fun x y H Q=>∃ (n:Nat) (a c:Addr),x=.ref a∧y=.ref c∧VSame K H (n+1) x y∧n≤30∧Q (.bl b) H
theorem op_eqV {X:Cx} (hu:X.A.units+64 < cLine):OpR X (compareOp .Eq) (rSameV X.K true):=by
  intro pins s σ H x y u v Q I rx ry h
  obtain ⟨n,a,c,rfl,rfl,hv,hn,q⟩:=h
  cases rx
  cases ry
  cases hv with
  | flat h=>cases h
  | seq t ha hb hl h =>
    obtain ⟨i1,r1,p1,_⟩:=I.seqA ha
    obtain ⟨i2,r2,p2,_⟩:=I.seqA hb
    refine rc_seq p1 p2 (by rw [← r1.length,← r2.length,hl]) (by omega) (items_same (n:=n) r1 r2 fun i x y u v e1 e2 g1 g2=>eq_deep I (h i x y e1 e2) X.A.in1 g1 g2 ?_) X.prog X.w _ _ ⟨.bl true,H,I,rfl,q⟩
    show X.A.units+1+n < cLine
    omega
theorem op_neV {X:Cx} (hu:X.A.units+64 < cLine):OpR X (compareOp .NotEq) (rSameV X.K false):=by
  intro pins s σ H x y u v Q I rx ry h
  obtain ⟨n,a,c,rfl,rfl,hv,hn,q⟩:=h
  cases rx
  cases ry
  cases hv with
  | flat h=>cases h
  | seq t ha hb hl h =>
    obtain ⟨i1,r1,p1,_⟩:=I.seqA ha
    obtain ⟨i2,r2,p2,_⟩:=I.seqA hb
    refine rcne_seq p1 p2 (by rw [← r1.length,← r2.length,hl]) (by omega) (items_same (n:=n) r1 r2 fun i x y u v e1 e2 g1 g2=>eq_deep I (h i x y e1 e2) X.A.in1 g1 g2 ?_) X.prog X.w _ _ ⟨.bl false,H,I,rfl,q⟩
    show X.A.units+1+n < cLine
    omega
theorem op_eqVK {X:Cx} (K:PySem.W.Frag) (hu:X.A.units+64 < cLine) (hK:X.K=K:=by rfl):OpR X (compareOp .Eq) (rSameV K true):=by subst hK;exact op_eqV hu
theorem op_neVK {X:Cx} (K:PySem.W.Frag) (hu:X.A.units+64 < cLine) (hK:X.K=K:=by rfl):OpR X (compareOp .NotEq) (rSameV K false):=by subst hK;exact op_neV hu
end L2
namespace L2
open PySem PySem.Spec PyProof.Rows
end L2
namespace L2
open PySem PySem.Spec PyProof.Rows
def hide (h:Heap) (fs:List Addr):Heap:=⟨((List.range h.objs.size).map fun i=>if i∈fs then (⟨.none,none,.freed,#[]⟩:Obj) else (h.objs[i]?).getD ⟨.none,none,.freed,#[]⟩).toArray,h.life⟩
theorem hide_get (h:Heap) (fs:List Addr) (b:Addr):(hide h fs).get? b=if b∈fs then none else h.get? b:=by
  unfold Heap.get? hide
  by_cases hb:b < h.objs.size
  · have e:((List.range h.objs.size).map fun i=>if i∈fs then (⟨.none,none,.freed,#[]⟩:Obj) else (h.objs[i]?).getD ⟨.none,none,.freed,#[]⟩).toArray[b]? = some (if b∈fs then (⟨.none,none,.freed,#[]⟩:Obj) else (h.objs[b]?).getD ⟨.none,none,.freed,#[]⟩):=by
      rw [List.getElem?_toArray,List.getElem?_map,List.getElem?_range hb]
      rfl
    show (match (((List.range h.objs.size).map fun i=>if i∈fs then (⟨.none,none,.freed,#[]⟩:Obj) else (h.objs[i]?).getD ⟨.none,none,.freed,#[]⟩).toArray[b]?) with | some ⟨_,_,.freed,_⟩=>none | o=>o)=_
    rw [e]
    by_cases hf:b∈fs
    · rw [if_pos hf,if_pos hf]
    · rw [if_neg hf,if_neg hf,Array.getElem?_eq_getElem hb]
      rfl
  · have e:((List.range h.objs.size).map fun i=>if i∈fs then (⟨.none,none,.freed,#[]⟩:Obj) else (h.objs[i]?).getD ⟨.none,none,.freed,#[]⟩).toArray[b]? = none:=by
      rw [List.getElem?_toArray]
      exact List.getElem?_eq_none (by rw [List.length_map,List.length_range];exact Nat.le_of_not_lt hb)
    show (match (((List.range h.objs.size).map fun i=>if i∈fs then (⟨.none,none,.freed,#[]⟩:Obj) else (h.objs[i]?).getD ⟨.none,none,.freed,#[]⟩).toArray[b]?) with | some ⟨_,_,.freed,_⟩=>none | o=>o)=_
    rw [e,Array.getElem?_eq_none (Nat.le_of_not_lt hb)]
    by_cases hf:b∈fs
    · rw [if_pos hf]
    · rw [if_neg hf]
theorem hide_in {h:Heap} {fs:List Addr} {b:Addr} {o:Obj} (e:h.get? b=some o) (n:b ∉ fs):(hide h fs).get? b=some o:=by rw [hide_get,if_neg n];exact e
theorem hide_stays (h:Heap) (fs:List Addr):(hide h fs).StaysIn h:=fun b o e=>by
  rw [hide_get] at e
  split at e
  · cases e
  · exact e
theorem hide_out {h:Heap} {fs:List Addr} {b:Addr} (n:b∈fs):(hide h fs).get? b=none:=by rw [hide_get,if_pos n]
theorem hide_frames {h b:Heap} {fs:List Addr}:∀ {l:List Env},(∀ x∈frs l,x∈fs)→h.FunFrames b l→h.FunFrames (hide h fs) l
  | [],_,_=>trivial
  | env :: l,hs,⟨hk,⟨L,o,hf,hn,ho,hd⟩,hr⟩ =>
    ⟨hk,⟨L,o,hf,hide_out (hs L (by unfold frs;rw [List.filterMap_cons,hf];exact List.mem_cons_self)),ho,hd⟩,hide_frames (fun x hx=>hs x (by unfold frs;rw [List.filterMap_cons,hf];exact List.mem_cons_of_mem _ hx)) hr⟩
theorem HOk.keptAt {P:Program} {w:World} {H:Hp} {h h':Heap} (x:HOk P w H h) (k:∀ b o u,H b=some o→h.get? b=some u→h'.get? b=some u):HOk P w H h':=fun a o e =>
  (x a o e).stay (fun b u hb q=>by
    rcases hb with rfl | hb
    · exact k b o u e q
    · exact k b _ u hb q) (fun _ q=>q) fun _ _ q=>q
theorem ObjOk.there' {P:Program} {w:World} {H:Hp} {h:Heap} {a:Addr} {o:HO} (x:ObjOk P w H h a o):∃ u,h.get? a=some u:=by
  cases o with
  | lst xs=>obtain ⟨_,_,_,_,e⟩:=x;exact ⟨_,e⟩
  | tup xs=>obtain ⟨_,_,_,⟨ob,e,_⟩,_⟩:=x;exact ⟨_,e⟩
  | dK kvs=>obtain ⟨_,_,_,_,o,_,_,e,_⟩:=x;exact ⟨_,e⟩
  | dT kvs=>obtain ⟨_,_,_,_,o,_,_,e,_⟩:=x;exact ⟨_,e⟩
  | set S n=>obtain ⟨o,_,_,_,e,_⟩:=x;exact ⟨_,e⟩
  | ins C dx fs=>obtain ⟨_,_,_,e,_⟩:=x;exact ⟨_,e⟩
  | own y=>obtain ⟨_,e⟩:=x;exact ⟨_,e⟩
  | xd fs=>obtain ⟨_,⟨_,_,_,e,_⟩,_⟩:=x;exact ⟨_,e⟩
  | rng lo hi=>obtain ⟨_,_,_,e⟩:=x;exact ⟨_,e⟩
  | frz ob u=>obtain ⟨e,_⟩:=x;exact ⟨_,e⟩
  | tbl ps=>exact ⟨_,(show h.get? a=some _ from x)⟩
  | met f y=>exact ⟨_,(show h.get? a=some _ from x)⟩
  | ext φ=>obtain ⟨_,⟨_,e⟩,_⟩:=x;exact ⟨_,e⟩
def CX1 (P:Program) (w:World):CXT:=fun outer H s E u s'=>∃ (e t:Addr) (cls:Value) (H':Hp) (b1:Heap),u=.ref e∧s'.os=s.os∧AllBare s'.gens∧Un (frs outer) [] H H' s.heap s'.heap∧HOk P w H' s'.heap∧H' e=none∧s.heap.get? e=none ∧
  Heap.FlyingW b1 outer e cls (.ref t) s'.heap∧(∀ b o,((∃ u,s.heap.get? b=some u)∨∃ u,H' b=some u)→b ∉ frs outer→s'.heap.get? b=some o→b1.get? b=some o)∧E cls none H'
section
variable {P:Program} {w:World} {K:PySem.W.Frag} {mg:Str→Option Value} {base:Heap} {N:List Str} {qual:Str} {scope:Scope} {f:Addr} {cdv:Value} {A:Around} {outer:List Env} {s:Shared} {H:Hp} {E:XK}
theorem frs_cons {env:Env} {l:List Env} {L:Addr} (h:env.frame=some L):frs (env :: l)=L :: frs l:=by unfold frs;rw [List.filterMap_cons,h]
theorem leave_made {pins:List (Addr × Obj)} {σ:St} {H1:Hp} {s1:Shared} {h2:Heap} {e:Addr} {cls:Value} {vs:List Value} (I:Inv (cxOf (CX1 P w) P w K mg base N qual scope f cdv A outer s H E) pins σ H1 s1)
    (hx:Heap.MadeExcOf s1.heap h2 e cls vs) (q:E cls none H1):(cxOf (CX1 P w) P w K mg base N qual scope f cdv A outer s H E).xe (.ref e) { s1 with heap:=h2 }:=by
  have hL:(envOfC qual scope s.heap.objs.size f cdv).frame=some s.heap.objs.size:=rfl
  have hfr:=frs_cons (l:=outer) hL
  have hst:=I.stack
  have hfree:=I.stkFree
  refine wpAny_leaves_madeW (base:=hide s1.heap (frs (envOfC qual scope s.heap.objs.size f cdv :: outer))) (h:=s1.heap) I.ok.frames hL (hide_stays _ _) (hide_frames (fun x hx=>hx) hst) hx fun h' t hfl htup hnew hsm=>?_
  have ne:∀ b u,s.heap.get? b=some u→b≠s.heap.objs.size:=fun b u h=>Nat.ne_of_lt (Heap.lt_size h)
  have keepS:∀ b o,s1.heap.get? b=some o→b ∉ frs (envOfC qual scope s.heap.objs.size f cdv :: outer)→h'.get? b=some o:=fun b o h n=>hfl.1 b o (hide_in h n)
  have nin:∀ b u,s.heap.get? b=some u→b ∉ frs outer→b ∉ frs (envOfC qual scope s.heap.objs.size f cdv :: outer):=fun b u h n z=>by
    rw [hfr] at z
    rcases List.mem_cons.mp z with z | z
    · exact ne b u h z
    · exact n z
  have slotS:∀ b o,s1.heap.get? b=some o→b∈frs (envOfC qual scope s.heap.objs.size f cdv :: outer)→∃ sl,h'.get? b=some { o with slots:=sl }:=fun b o h n=>by
    obtain ⟨_,o',ho',hd⟩:=hst.mem n
    rw [h] at ho'
    cases ho'
    exact hsm b o (hx.keeps b o h) hd
  have trk:∀ b o,H1 b=some o→b ∉ frs (envOfC qual scope s.heap.objs.size f cdv :: outer):=fun b o h z=>by
    have:=hfree b z
    rw [h] at this
    cases this
  refine ⟨e,t,cls,H1,hide s1.heap (frs (envOfC qual scope s.heap.objs.size f cdv :: outer)),rfl,I.os,I.bare,⟨fun b o h n hb _=>?_,fun b o h n hb _=>?_,fun b o h n _=>I.base.free b o h n (by simp [cxOf]),fun b o h _=>?_,I.base.tups,I.base.frzs,I.base.tbls⟩,?_,?_,?_,hfl,fun b o h n h'=>?_,q⟩
  · exact keepS b o (I.base.keep b o h n hb (by simp [cxOf])) (nin b o h hb)
  · obtain ⟨sl,e1⟩:=I.base.slot b o h n hb (by simp [cxOf])
    obtain ⟨sl2,e2⟩:=slotS b _ e1 (by rw [hfr];exact List.mem_cons_of_mem _ hb)
    exact ⟨sl2,e2⟩
  · obtain ⟨o',e1⟩:=I.base.there b o h (by simp [cxOf])
    by_cases hb:b∈frs (envOfC qual scope s.heap.objs.size f cdv :: outer)
    · obtain ⟨sl,e2⟩:=slotS b _ e1 hb
      exact ⟨_,e2⟩
    · exact ⟨_,keepS b o' e1 hb⟩
  · exact I.hok.keptAt fun b o u h1 h2=>keepS b u h2 (trk b o h1)
  · cases z:H1 e with
    | none=>rfl
    | some o =>
      obtain ⟨u,hu⟩:=(I.hok e o z).there'
      rw [hx.new] at hu
      cases hu
  · cases z:s.heap.get? e with
    | none=>rfl
    | some o =>
      obtain ⟨u,hu⟩:=I.base.there e o z (by simp [cxOf])
      rw [hx.new] at hu
      cases hu
  · have:∃ u,s1.heap.get? b=some u∧b ∉ frs (envOfC qual scope s.heap.objs.size f cdv :: outer):=by
      rcases h with ⟨u,h⟩ | ⟨u,h⟩
      · obtain ⟨o',e1⟩:=I.base.there b u h (by simp [cxOf])
        exact ⟨o',e1,nin b u h n⟩
      · obtain ⟨o',e1⟩:=(I.hok b u h).there'
        exact ⟨o',e1,trk b u h⟩
    obtain ⟨u,h1,h2⟩:=this
    have h3:=keepS b u h1 h2
    rw [h'] at h3
    cases h3
    exact hide_in h1 h2
theorem pass1:Passes (CX1 P w) (cxOf (CX1 P w) P w K mg base N qual scope f cdv A outer s H E) E:=by
  intro pins σ H0 s0 u s' I hx
  obtain ⟨e,t,cls,H',b1,rfl,hos,hbare,un,hok,he,hes,hfl,cov,q⟩:=hx
  have hL:(envOfC qual scope s.heap.objs.size f cdv).frame=some s.heap.objs.size:=rfl
  have hfr:=frs_cons (l:=outer) hL
  have hst:=I.stack
  have hfree:=I.stkFree
  refine wpAny_leaves_onW (base:=b1) I.ok.frames hL hfl fun h' hfl' hsm=>?_
  have ne:∀ b u,s.heap.get? b=some u→b≠s.heap.objs.size:=fun b u h=>Nat.ne_of_lt (Heap.lt_size h)
  have nin:∀ b u,s.heap.get? b=some u→b ∉ frs outer→b ∉ frs (envOfC qual scope s.heap.objs.size f cdv :: outer):=fun b u h n z=>by
    rw [hfr] at z
    rcases List.mem_cons.mp z with z | z
    · exact ne b u h z
    · exact n z
  have keepC:∀ b o,((∃ u,s0.heap.get? b=some u)∨∃ u,H' b=some u)→s'.heap.get? b=some o→b ∉ frs (envOfC qual scope s.heap.objs.size f cdv :: outer)→b1.get? b=some o∧h'.get? b=some o:=fun b o h1 h2 n=>by
    have:=cov b o h1 n h2
    exact ⟨this,hfl'.1 b o this⟩
  have slotS:∀ b o,s'.heap.get? b=some o→b∈frs (envOfC qual scope s.heap.objs.size f cdv :: outer)→∃ sl,h'.get? b=some { o with slots:=sl }:=fun b o h n=>by
    obtain ⟨_,o',ho',hd⟩:=hfl.2.2.1.mem n
    rw [h] at ho'
    cases ho'
    exact hsm b o h hd
  have trk:∀ b o,H' b=some o→b ∉ frs (envOfC qual scope s.heap.objs.size f cdv :: outer):=fun b o h z=>by
    obtain ⟨_,o',ho',_⟩:=hst.mem z
    have:=un.free b o' ho' (hfree b z) (by simp)
    rw [h] at this
    cases this
  refine ⟨e,t,cls,H',b1,rfl,hos.trans I.os,hbare,⟨fun b o h n hb _=>?_,fun b o h n hb _=>?_,fun b o h n _=>?_,fun b o h _=>?_,fun b xs h=>un.tups b xs (I.base.tups b xs h),fun b o v h=>un.frzs b o v (I.base.frzs b o v h),fun b ps h=>?_⟩,?_,he,?_,hfl',fun b o h n h'=>?_,q⟩
  · have e1:=I.base.keep b o h n hb (by simp [cxOf])
    have e2:=un.keep b o e1 (I.base.free b o h n (by simp [cxOf])) (nin b o h hb) (by simp)
    exact (keepC b o (.inl ⟨_,e1⟩) e2 (nin b o h hb)).2
  · obtain ⟨sl,e1⟩:=I.base.slot b o h n hb (by simp [cxOf])
    have hin:b∈frs (envOfC qual scope s.heap.objs.size f cdv :: outer):=by rw [hfr];exact List.mem_cons_of_mem _ hb
    obtain ⟨sl1,e2⟩:=un.slot b _ e1 (I.base.free b o h n (by simp [cxOf])) hin (by simp)
    obtain ⟨sl2,e3⟩:=slotS b _ e2 hin
    exact ⟨sl2,e3⟩
  · obtain ⟨o',e1⟩:=I.base.there b o h (by simp [cxOf])
    exact un.free b o' e1 (I.base.free b o h n (by simp [cxOf])) (by simp)
  · obtain ⟨o1,e1⟩:=I.base.there b o h (by simp [cxOf])
    obtain ⟨o2,e2⟩:=un.there b o1 e1 (by simp)
    by_cases hb:b∈frs (envOfC qual scope s.heap.objs.size f cdv :: outer)
    · obtain ⟨sl,e3⟩:=slotS b _ e2 hb
      exact ⟨_,e3⟩
    · exact ⟨_,(keepC b o2 (.inl ⟨_,e1⟩) e2 hb).2⟩
  · obtain ⟨m1,e1⟩:=I.base.tbls b ps h
    obtain ⟨m2,e2⟩:=un.tbls b _ e1
    exact ⟨m1++m2,by rw [e2,Array.append_assoc]⟩
  · exact hok.keptAt fun b o u h1 h2=>(keepC b u (.inr ⟨_,h1⟩) h2 (trk b o h1)).2
  · cases z:s.heap.get? e with
    | none=>rfl
    | some o =>
      obtain ⟨u,hu⟩:=I.base.there e o z (by simp [cxOf])
      rw [hes] at hu
      cases hu
  · have:(∃ u,s'.heap.get? b=some u)∧((∃ u,s0.heap.get? b=some u)∨∃ u,H' b=some u)∧b ∉ frs (envOfC qual scope s.heap.objs.size f cdv :: outer):=by
      rcases h with ⟨u,h⟩ | ⟨u,h⟩
      · obtain ⟨o1,e1⟩:=I.base.there b u h (by simp [cxOf])
        exact ⟨un.there b o1 e1 (by simp),.inl ⟨_,e1⟩,nin b u h n⟩
      · exact ⟨(hok b u h).there',.inr ⟨_,h⟩,trk b u h⟩
    obtain ⟨⟨u,h1⟩,h2,h3⟩:=this
    obtain ⟨h4,h5⟩:=keepC b u h2 h1 h3
    rw [h'] at h5
    cases h5
    exact h4
theorem Fun.ok1 {x:Str} {st:Stmt} {fd:FuncData} {ps:List Str} {k:Nat} {sp:Sp} (F:Fun K x qual st f fd) (S:FnScope N ps (defScope st)) (len:∀ vs H Q E,sp vs H Q E→vs.length=ps.length)
    (hbody:∀ (cdv:Value) (A:Around) (outer:List Env) (s:Shared) (H:Hp) (vs:List V) (Q:VK) (E:XK),Room k (A.deeper (envOfC qual (defScope st) s.heap.objs.size f cdv))→sp vs H Q E →
      ∃ t,PSs (cxOf (CX1 P w) P w K mg base N qual (defScope st) f cdv A outer s H E) (defBody st) t∧t { nx:=fun _ H'=>Q .non H',rt:=Q } (start N vs) H):FnOk P w K mg base (CX1 P w) (k+1) f fd ps sp:=by
  obtain ⟨oc,od,kV,doc,pm,an,cdv,ct,osl,rfl,lk,hcd⟩:=F.ex
  exact fn_of lk hcd S len fun A outer s H vs Q E hr hsp=>hbody cdv A outer s H vs Q E hr hsp
theorem FnOk.calm {k:Nat} {fd:FuncData} {ps:List Str} {sp sp':Sp} (F:FnOk P w K mg base (CX1 P w) k f fd ps sp) (h:∀ vs H Q E,sp' vs H Q E→sp vs H Q E0):FnOk P w K mg base CX0 k f fd ps sp' :=
  ⟨fun vs H Q E q=>F.len vs H Q E0 (h _ _ _ _ q),fun A outer s H args us vs Q E hr he hb hv hs=>codeAny_mono (F.run A outer s H args us vs Q E0 hr he hb hv (h _ _ _ _ hs)) fun r s' hq=>by
    cases r with
    | error e =>
      obtain ⟨_,_,_,_,_,_,_,_,_,_,_,_,_,_,q⟩:=hq
      exact q.elim
    | ok fl=>cases fl <;> exact hq⟩
def tRaise (C:Addr) (E:XK) (t:TA):TS:=fun D σ H=>t σ H fun vs H1=>vs.length≤sizeLine∧E (.ref C) none H1
theorem ps_raise {x:Str} {C:Addr} {bm:List Value} {B newId initId:String} {e₀:Expr} {rest:List Expr} {t:TA} {np cpos pos:Pos} (O:OwnCls x C bm newId mg base) (FB:ExcBaseFacts B newId initId bm)
    (hg:Gl (cxOf (CX1 P w) P w K mg base N qual scope f cdv A outer s H E) x) (ha:PA (cxOf (CX1 P w) P w K mg base N qual scope f cdv A outer s H E) (e₀ :: rest) t)
    (he:starEach (e₀ :: rest) (envOfC qual scope s.heap.objs.size f cdv)=(false,eval e₀ (envOfC qual scope s.heap.objs.size f cdv)) :: starEach rest (envOfC qual scope s.heap.objs.size f cdv):=by rfl)
    (hplain:(backTo cpos (starEach rest (envOfC qual scope s.heap.objs.size f cdv))).any (·.1)=false:=by rfl) (hdb:(x == ("__debug__" : Str))=false:=by decide) :
    PS (cxOf (CX1 P w) P w K mg base N qual scope f cdv A outer s H E) (.Raise (some (.Call (.Name x np) (e₀ :: rest) [] cpos)) none pos) (tRaise C E t):=by
  intro pins s1 σ H1 D I h
  obtain ⟨tl,NN,nm,q,bs,hdct,sn,sub,ab,col,dd,k0,k1,k2,k3,k5,mN,hC,hN,hni,T⟩:=O.obj
  refine wpAny_Raise_call_subT (C:=C) (nm:=nm) (q:=q) (N:=NN) (bs:=bs) (bm:=tl) (hdct:=hdct) (sn:=sn) (sub:=sub) (ab:=ab) (col:=col) (dd:=dd) (k0:=k0) (k1:=k1) (k2:=k2) (k3:=k3) (k5:=k5)
    FB (mN:=mN) (T.hasType FB.hasBase) (I.ok.hd rfl) (by show (backTo cpos (starEach (e₀ :: rest) (envOfC qual scope s.heap.objs.size f cdv))).any (·.1)=false;rw [he];show (false || (backTo cpos (starEach rest (envOfC qual scope s.heap.objs.size f cdv))).any (·.1))=false;rw [hplain];rfl) hni (ld_glob I hg O.bound ⟨rfl,?_⟩ hdb)
  have ha':=ha cpos pins s1 σ H1 _ I h
  have he':starEach (e₀ :: rest) (cxOf (CX1 P w) P w K mg base N qual scope f cdv A outer s H E).env=(false,eval e₀ (envOfC qual scope s.heap.objs.size f cdv)) :: starEach rest (envOfC qual scope s.heap.objs.size f cdv):=he
  rw [he'] at ha' ⊢
  refine Calls.evalArgs_plain (wpAny_mono ha' (fun vs s2 h2=>?_) fun _ _ y=>y)
  obtain ⟨us,H2,I2,r,hz,hq⟩:=h2
  have hk:=I2.bk
  exact ⟨rfl,by rw [← r.length];exact hz,hk _ _ hC,hN.keeps hk,T.keeps hk,fun h' e hx=>leave_made I2 hx hq⟩
end
end L2
namespace L2
open PySem PySem.Spec PySem.Calls PyProof.Rows PySem.W
section
variable {prog:Program} {w:World} {A:Around} {E:Value→Shared→Prop} {s:Shared} {K:PySem.W.Frag} {x D:Addr} {ox:Obj}
structure XAt (h:Heap) (x:Addr) (ox:Obj) (D:Addr):Prop where
  at_:h.get? x=some ox
  cls:ox.cls=.ref D
theorem XAt.type {M:Model} {h:Heap} (I:XAt h x ox D):Looks M h (typeOf (.ref x)) (.ref D):=by
  have:=I.cls
  exact this ▸ (Looks.ld I.at_).andThen Looks.now
theorem xi_find {M:Model} {h:Heap} (X:K.In h) (ha:findIn K (.ref D) "__class__" = some (some (.builtin "object.__class__"))) (hn:specialIn K (.builtin "object.__class__") "__get__" = some (some (.builtin "getset_descriptor.__get__")))
    (ht:takesIn K (.builtin "object.__class__")=some true):Looks M h (Builtin.ObjectAttr.find (.ref x) (.ref D) "__class__") (.bind (.builtin "getset_descriptor.__get__") (.builtin "object.__class__")):=by
  have l1:=looks_findIn (M:=M) X ha
  have l2:Looks M h (Builtin.ObjectAttr.getOf (some (.builtin "object.__class__"))) (some (.builtin "getset_descriptor.__get__")):=looks_specialIn X hn
  have l3:=looks_takesIn (M:=M) X ht
  have l4:Looks M h (Builtin.ObjectAttr.dataDescriptor? (some (.builtin "object.__class__")) (some (.builtin "getset_descriptor.__get__"))) (some (.builtin "getset_descriptor.__get__",.builtin "object.__class__")):=l3.andThen Looks.now
  exact l1.andThen (l2.andThen (l4.andThen (Looks.tag Looks.now)))
theorem xi_get {tp:Value} {R:Result→Shared→Prop} (X:K.In s.heap) (I:XAt s.heap x ox D) (hm:mroIn K D (.type "object")=some true)
    (h:R (.ok (.ret (.ref D))) s):codeAny (model prog w) A (.call (.builtin "getset_descriptor.__get__") ⟨[.builtin "object.__class__",.ref x,tp],[]⟩) R s:=by
  obtain ⟨hh,g,dr,t,os⟩:=s
  have L0:=I.type (M:=model prog w)
  have L1:=looks_mroIn (M:=model prog w) X hm
  refine codeAny_call_builtin KF.slot_gs.plain KF.entry_gs (KF.slot_gs.check _ _ _ _ _ _ _ _ KF.type_class (KF.args_gs _ _ _) ?_)
  unfold Builtin.«getset_descriptor.__get__» Builtin.Getset_descriptor.descrGet
  rw [dga_obj]
  refine wpAny_bind (wpAny_pure ?_)
  unfold Builtin.Getset_descriptor.descrGetter Builtin.Getset_descriptor.descrCheckInstance Builtin.Getset_descriptor.descrNameAndClass isInstance
  simp only [KF.owner_class]
  repeat lk
  refine ⟨Code.quiet_builtin _ (by decide +kernel),codeAny_builtin KF.entry_class ?_⟩
  unfold Builtin.«object.__class__» shownTypeOf
  repeat lk
  exact h
theorem xi_entry {tk:Tok} {Q:Fin→Shared→Prop} (X:K.In s.heap) (I:XAt s.heap x ox D) (hf:∀ M:Model,Looks M s.heap (Builtin.ObjectAttr.find (.ref x) (.ref D) "__class__") (.bind (.builtin "getset_descriptor.__get__") (.builtin "object.__class__")))
    (hm:mroIn K D (.type "object")=some true) (h:Q (.done (.ret (.ref D))) s):wpAny (model prog w) A (Builtin.«object.__getattribute__» ⟨[.ref x,.str "__class__" tk],[]⟩) Q E s:=by
  obtain ⟨hh,g,d,t,os⟩:=s
  have L0:=I.type (M:=model prog w)
  have L1:=hf (model prog w)
  unfold Builtin.«object.__getattribute__»
  refine wpAny_bind (wpAny_pure (wpAny_bind (wpAny_pure (wpAny_bind (L0.at (wpAny_bind (L1.at ?_)))))))
  show wpAny _ _ (holding [.builtin "object.__class__"] (call (.builtin "getset_descriptor.__get__") [.builtin "object.__class__",.ref x,.ref D]) >>= ret) _ _ _
  exact wpAny_bind (wpAny_holding (wpAny_call (xi_get (s:=⟨hh,g,d,t,os⟩) X I hm (wpAny_pure h))))
theorem xi_by {B:String} (FX:ExcAttrFacts B) {tk:Tok} {Q:Value→Shared→Prop} (X:K.In s.heap) (I:XAt s.heap x ox D) (hf:∀ M:Model,Looks M s.heap (Builtin.ObjectAttr.find (.ref x) (.ref D) "__class__") (.bind (.builtin "getset_descriptor.__get__") (.builtin "object.__class__")))
    (hm:mroIn K D (.type "object")=some true) (hmB:mroIn K D (.type "BaseException")=some true) (hga:findIn K (.ref D) "__getattribute__" = some (some (.builtin "BaseException.__getattribute__"))) (hgt:findIn K (.ref D) "__getattr__" = some none)
    (h:Q (.ref D) s):wpAny (model prog w) A (getAttrBy (.ref x) (.str "__class__" tk) false false) Q E s:=by
  obtain ⟨hh,g,d,t,os⟩:=s
  have L0:=I.type (M:=model prog w)
  have L1:=looks_findIn (M:=model prog w) X hga
  have L2:=looks_findIn (M:=model prog w) X hgt
  unfold getAttrBy
  refine wpAny_holding (wpAny_bind (L0.at (wpAny_bind (L1.at ?_))))
  show wpAny _ _ (getAttrByItsOwn _ _ _ _ _ _) _ _ _
  unfold getAttrByItsOwn hookBefore
  refine wpAny_bind (L2.at ?_)
  have L3:Looks (model prog w) hh (isInstance (.ref x) (.type "BaseException")) true:=L0.andThen (looks_mroIn X hmB)
  have hk:builtinKind "BaseException.__getattribute__" = some .slot:=by decide +kernel
  have hsplit:splitId "BaseException.__getattribute__" = some ("BaseException","__getattribute__"):=by decide +kernel
  have hargs:=PySem.F.args_bexc_ga (.ref x) (.str "__class__" tk)
  refine wpAny_bind (wpAny_attempt (wpAny_holding ?_))
  show wpAny _ _ (boundAndCalled _ _ _) _ _ _
  unfold boundAndCalled
  rw [FX.ga.bind (.ref x)]
  refine wpAny_bind (wpAny_pure ?_)
  refine wpAny_call (codeAny_call_builtin FX.ga.plain PySem.F.entry_bexc_ga ?_)
  simp only [checkBuiltinCall,hk,hsplit]
  refine wpAny_bind (L3.at ?_)
  rw [if_neg (by decide)]
  have hgo:wpAny (model prog w) A.in1 (Builtin.«object.__getattribute__» ⟨[.ref x]++[.str "__class__" tk],[]⟩) (fun fin s'=>match fin with
      | .done (.ret v)=>wpAny (model prog w) A (handedOut v) Q E s'
      | _=>False) (fun _ _=>False) ⟨hh,g,d,t,os⟩:=xi_entry X I hf hm (handed_on rfl h)
  cases hsig:Manifest.signature? "BaseException.__getattribute__" with
  | none =>
    refine wpAny_pure ?_
    refine wpAny_mono hgo (fun fin s' z=>?_) fun _ _ z=>z.elim
    rcases fin with (_ | _ | _ | _) | _ <;> first | exact z | exact z.elim
  | some sig =>
    simp only [argsOk,hsig] at hargs
    have hargs':Bind.checkArgs "BaseException.__getattribute__" sig ⟨[.ref x]++[.str "__class__" tk],[]⟩=pure ():=hargs
    show wpAny _ _ (Bind.checkArgs "BaseException.__getattribute__" sig ⟨[.ref x]++[.str "__class__" tk],[]⟩) _ _ _
    rw [hargs']
    refine wpAny_pure ?_
    refine wpAny_mono hgo (fun fin s' z=>?_) fun _ _ z=>z.elim
    rcases fin with (_ | _ | _ | _) | _ <;> first | exact z | exact z.elim
theorem xi_class {B:String} (FX:ExcAttrFacts B) {Q:Option Value→Shared→Prop} (X:K.In s.heap) (I:XAt s.heap x ox D) (hf:∀ M:Model,Looks M s.heap (Builtin.ObjectAttr.find (.ref x) (.ref D) "__class__") (.bind (.builtin "getset_descriptor.__get__") (.builtin "object.__class__")))
    (hm:mroIn K D (.type "object")=some true) (hmB:mroIn K D (.type "BaseException")=some true) (hga:findIn K (.ref D) "__getattribute__" = some (some (.builtin "BaseException.__getattribute__"))) (hgt:findIn K (.ref D) "__getattr__" = some none)
    (h:Q (some (.ref D)) { s with toks:=s.toks+1 }):wpAny (model prog w) A (getAttr? (.ref x) "__class__") Q E s:=by
  unfold getAttr? getAttrBy?
  refine wpAny_bind (wpAny_mkText (wpAny_bind (wpAny_attempt ?_)))
  exact xi_by (s:={ s with toks:=s.toks+1 }) FX X I hf hm hmB hga hgt (wpAny_pure h)
structure ExcK (K:PySem.W.Frag) (D:Addr):Prop where
  cls:(clsIn K D).isSome=true
  find:findIn K (.ref D) "__class__" = some (some (.builtin "object.__class__"))
  get:specialIn K (.builtin "object.__class__") "__get__" = some (some (.builtin "getset_descriptor.__get__"))
  takes:takesIn K (.builtin "object.__class__")=some true
  obj:mroIn K D (.type "object")=some true
  bexc:mroIn K D (.type "BaseException")=some true
  ga:findIn K (.ref D) "__getattribute__" = some (some (.builtin "BaseException.__getattribute__"))
  gt:findIn K (.ref D) "__getattr__" = some none
theorem isType_in {C:Addr} {M:Model} {h:Heap} (X:K.In h) (e:(clsIn K C).isSome=true):Looks M h (isType (.ref C)) true:=by
  unfold clsIn at e
  split at e
  · rename_i ho
    intro A' Q' E' s' k q
    unfold isType loadHead
    exact wpAny_bind (wpAny_loadPart (k _ _ (X _ _ ho)) (wpAny_pure q))
  · cases e
theorem xi_nested {B:String} (FX:ExcAttrFacts B) (EK:ExcK K D) {c:Value} {b:Bool} {dep:Int} {tk:Tok} {Q:Fin→Shared→Prop} (X:K.In s.heap) (I:XAt s.heap x ox D) (hty:Looks (model prog w) s.heap (typeOf c) (.type "type")) (his:Looks (model prog w) s.heap (isType c) true)
    (hsub:Looks (model prog w) s.heap (isSubtype (.ref D) c) b) (hself:(Value.ref D == c)=true→b=true) (h:∀ t,Q (.done (.ret (.bool b))) { s with toks:=t }) :
    wpAny (model prog w) A (Builtin.«isinstance.nested» ⟨[.ref x,c,.int dep tk],[]⟩) Q E s:=by
  have hisD:=isType_in (M:=model prog w) X EK.cls
  obtain ⟨h0,g,d,tt,os⟩:=s
  have L0:=I.type (M:=model prog w)
  have LI:Looks (model prog w) h0 (isInstance (.ref x) c) b:=L0.andThen hsub
  unfold Builtin.«isinstance.nested»
  refine wpAny_bind (L0.at ?_)
  by_cases hq:(Value.ref D == c)=true
  · rw [if_pos hq]
    have hb:=hself hq
    subst hb
    refine wpAny_bind (wpAny_rule ?_)
    exact wpAny_pure (h tt)
  · rw [if_neg hq]
    refine wpAny_bind (hty.at ?_)
    rw [if_pos (by decide)]
    k_delta "plainIsInstance"
    refine wpAny_bind (wpAny_bind (his.at ?_))
    simp only [Bool.not_true,Bool.false_eq_true,if_false]
    refine wpAny_bind (LI.at ?_)
    cases b with
    | true =>
      simp only [if_true]
      exact wpAny_pure (wpAny_pure (h tt))
    | false =>
      simp only [Bool.false_eq_true,if_false]
      refine wpAny_bind (xi_class FX X I (fun _=>xi_find X EK.find EK.get EK.takes) EK.obj EK.bexc EK.ga EK.gt ?_)
      refine wpAny_bind (hisD.at ?_)
      simp only [Bool.not_true,Bool.false_eq_true,if_false]
      refine wpAny_bind (wpAny_rule ?_)
      refine hsub.at ?_
      first
        | exact wpAny_pure (h _)
        | exact wpAny_pure (wpAny_pure (h _))
        | exact wpAny_bind (wpAny_pure (wpAny_pure (h _)))
theorem xi_call {B:String} (FX:ExcAttrFacts B) (EK:ExcK K D) {c:Value} {b:Bool} {Q:Value→Shared→Prop} (X:K.In s.heap) (I:XAt s.heap x ox D) (hty:∀ (M:Model) h',K.In h'→Looks M h' (typeOf c) (.type "type")) (his:∀ (M:Model) h',K.In h'→Looks M h' (isType c) true)
    (hsub:∀ (M:Model) h',K.In h'→Looks M h' (isSubtype (.ref D) c) b) (hself:(Value.ref D == c)=true→b=true) (h:∀ t,Q (.bool b) { s with toks:=t }):wpAny (model prog w) A (call (.builtin "isinstance") [.ref x,c]) Q E s :=
  call_isinstance (S:=fun _ R s=>(K.In s.heap∧XAt s.heap x ox D)∧∀ t,R (.ok (.ret (.bool b))) { s with toks:=t })
    (fun _ _ _ _ _ hs=>isinstance_outer (xi_nested FX EK hs.1.1 hs.1.2 (hty _ _ hs.1.1) (his _ _ hs.1.1) (hsub _ _ hs.1.1) hself hs.2) (by intro q;cases q)) ⟨⟨X,I⟩,h⟩
end
end L2
namespace L2
open PySem PySem.Spec PySem.Calls PyProof.Rows PySem.W
section
variable {prog:Program} {w:World} {A:Around} {E:Value→Shared→Prop} {s:Shared} {K:PySem.W.Frag} {x C D:Addr} {ox:Obj}
theorem xm_match {b:Bool} {Q:Bool→Shared→Prop} (X:K.In s.heap) (I:XAt s.heap x ox D) (hC:(clsIn K C).isSome=true) (hnt:instIn K (.ref C) (.type "tuple")=some false) (hb:mroIn K C (.type "BaseException")=some true) (hsub:mroIn K D (.ref C)=some b)
    (h:Q b s):wpAny (model prog w) A (excMatches (.ref x) (.ref C)) Q E s:=by
  obtain ⟨hh,g,d,t,os⟩:=s
  have L0:=I.type (M:=model prog w)
  have L1:=looks_instIn (M:=model prog w) X hnt
  have L2:=isType_in (M:=model prog w) X hC
  have L3:=looks_mroIn (M:=model prog w) X hb
  have L4:=looks_mroIn (M:=model prog w) X hsub
  have L5:Looks (model prog w) hh (isExcClass (.ref C)) true:=L2.andThen L3
  unfold excMatches
  refine wpAny_bind (L1.at ?_)
  rw [if_neg (by decide)]
  refine wpAny_bind (wpAny_pure ?_)
  simp only [List.forIn_cons,List.forIn_nil]
  refine wpAny_bind (wpAny_bind (wpAny_bind (L5.at ?_)))
  rw [if_neg (by decide)]
  refine wpAny_pure (wpAny_pure ?_)
  refine wpAny_bind (L0.at ?_)
  refine wpAny_bind (wpAny_bind (wpAny_bind (L4.at ?_)))
  cases b with
  | true =>
    rw [if_pos rfl]
    exact wpAny_pure (wpAny_pure (wpAny_pure h))
  | false =>
    rw [if_neg (by decide)]
    exact wpAny_pure (wpAny_pure (wpAny_pure h))
end
def excO (e D:Addr):HO:=.ext fun h=>∃ ox,XAt h e ox D
section
variable {X:Cx} {pins:List (Addr × Obj)} {σ:St} {H:Hp} {s:Shared} {e:Addr} {o:HO}
theorem Inv.track (I:Inv X pins σ H s) (he:H e=none) (hs0:X.s₀.heap.get? e=none) (nl:e≠X.env.locals) (nc:∀ x c,X.env.cells.lookup x=some c→c≠e) (np:∀ p∈X.pn++pins,p.1≠e)
    (ho:ObjOk X.prog X.w (upd H e o) s.heap e o):Inv X pins σ (upd H e o) s:=by
  have ne:∀ b u,H b=some u→b≠e:=fun b u h z=>by rw [z,he] at h;cases h
  refine ⟨I.ok,I.os,I.bare,⟨I.base.keep,I.base.slot,fun b u h n hx=>?_,I.base.there,fun b xs h=>?_,fun b u v h=>?_,fun b ps h=>?_⟩,I.loc,I.cell,by rw [upd_ne (Ne.symm nl)];exact I.free,fun x c h=>by rw [upd_ne (nc x c h)];exact I.freeC x c h,fun p hp=>?_,fun a u h=>?_,I.len⟩
  · rw [upd_ne fun z=>by rw [z,hs0] at h;cases h]
    exact I.base.free b u h n hx
  · have:=I.base.tups b xs h
    rw [upd_ne (ne b _ this)]
    exact this
  · have:=I.base.frzs b u v h
    rw [upd_ne (ne b _ this)]
    exact this
  · obtain ⟨more,h1⟩:=I.base.tbls b ps h
    exact ⟨more,by rw [upd_ne (ne b _ h1)];exact h1⟩
  · obtain ⟨a1,a2,a3⟩:=I.pin p hp
    exact ⟨a1,by rw [upd_ne (np p hp)];exact a2,a3⟩
  · by_cases ha:a=e
    · subst ha
      rw [upd_same] at h
      cases h
      exact ho
    · rw [upd_ne ha] at h
      exact (I.hok a u h).stay (fun b w' _ q=>q) (fun b q=>by rw [upd_ne (ne b _ q)];exact q) fun b xs q=>by rw [upd_ne (ne b _ q)];exact q
theorem name_goes {M:Model} {A:Around} {E:Value→Shared→Prop} {i:Nat} {n:Str} {pos:Pos} {Q:Unit→Shared→Prop} (I:Inv X pins σ H s) (hN:X.N.Nodup) (hi:X.N[i]? = some n) (hk:X.env.kindOf n=some .local)
    (h:∀ s',Inv X pins (σ.set i none) H s'→Q () s'):wpAny M A (do bindName X.env n .none;unbindBehindTheSuite X.env n pos) Q E s:=by
  obtain ⟨m,hn,hl⟩:=id I.loc
  have hcls:(X.env.scope.kind == .class || (X.env.scope.kind == .module && X.env.locals != X.env.globals))=false:=by rw [I.ok.kind];rfl
  have cne:=I.cne
  obtain ⟨oL,_,_,hoL,_⟩:=id hn
  have lo:∀ b o,X.s₀.heap.get? b=some o→b≠X.env.locals:=fun b o e=>Nat.ne_of_lt (Nat.lt_of_lt_of_le (Heap.lt_size e) I.ok.above)
  refine wpAny_nameGoes_keeps hk hn hcls fun h' v hn' hs=>h _ ⟨I.ok,I.os,I.bare,⟨fun b o e n hb hx=>(hs.2 b (lo b o e)).trans (I.base.keep b o e n hb hx),fun b o e n hb hx=>?_,I.base.free,fun b o e hx=>?_,I.base.tups,I.base.frzs,I.base.tbls⟩,⟨_,hn',fun j y v' e1 e2 e3=>?_⟩,fun y c e=>?_,I.free,I.freeC,fun p hp=>?_,?_,by simpa using I.len⟩
  · obtain ⟨sl,e1⟩:=I.base.slot b o e n hb hx
    exact ⟨sl,(hs.2 b (lo b o e)).trans e1⟩
  · obtain ⟨o',e1⟩:=I.base.there b o e hx
    exact ⟨o',(hs.2 b (lo b o e)).trans e1⟩
  · by_cases hj:j=i
    · subst hj
      rw [List.getElem?_set] at e2
      split at e2
      · split at e2 <;> cases e2
      · rename_i hz
        exact absurd rfl hz
    · rw [List.getElem?_set_ne (Ne.symm hj)] at e2
      obtain ⟨u',r',q⟩:=hl j y v' e1 e2 e3
      refine ⟨u',r',?_⟩
      rcases q with ⟨k,e⟩ | ⟨k,c,e,z⟩
      · refine .inl ⟨k,?_⟩
        have:y≠n:=fun e=>hj (nodup_ix hN e1 (e ▸ hi))
        simp [this,e]
      · exact .inr ⟨k,c,e,z.sameBut hs (cne y c e)⟩
  · obtain ⟨w',z⟩:=I.cell y c e
    exact ⟨w',z.sameBut hs (cne y c e)⟩
  · obtain ⟨e,n,ne,nf,d⟩:=I.pin p hp
    exact ⟨(hs.2 p.1 ne).trans e,n,ne,nf,d⟩
  · exact I.hok.keptAt fun b o u h1 h2=>(hs.2 b fun z=>by rw [z,I.free] at h1;cases h1).trans h2
end
structure Fl (X:Cx) (pins:List (Addr × Obj)) (σ:St) (H0:Hp) (s0:Shared) (H':Hp) (e:Addr) (b1:Heap) (s':Shared):Prop where
  I0:Inv X pins σ H0 s0
  os:s'.os=s0.os
  bare:AllBare s'.gens
  un:Un (frs X.stack) [] H0 H' s0.heap s'.heap
  hok:HOk X.prog X.w H' s'.heap
  he:H' e=none
  hes:s0.heap.get? e=none
  stay:b1.StaysIn s'.heap
  ff:s'.heap.FunFrames b1 X.stack
  cov:∀ b o,((∃ u,s0.heap.get? b=some u)∨∃ u,H' b=some u)→b ∉ frs X.stack→s'.heap.get? b=some o→b1.get? b=some o
section
variable {X:Cx} {pins:List (Addr × Obj)} {σ:St} {H0 H':Hp} {s0 s':Shared} {e:Addr} {b1 h':Heap}
theorem Fl.inv (F:Fl X pins σ H0 s0 H' e b1 s'):Inv X pins σ H' s':=F.I0.call' (ch:=[]) F.os F.un F.hok F.bare fun b z=>absurd z (by simp)
theorem Fl.move (F:Fl X pins σ H0 s0 H' e b1 s') (st:b1.StaysIn h') (ff:h'.FunFrames b1 X.stack) (us:s'.heap.UpToSlots h'):Fl X pins σ H0 s0 H' e b1 { s' with heap:=h' }:=by
  have keepC:∀ b o,((∃ u,s0.heap.get? b=some u)∨∃ u,H' b=some u)→s'.heap.get? b=some o→b ∉ frs X.stack→b1.get? b=some o∧h'.get? b=some o:=fun b o h1 h2 n=>by
    have:=F.cov b o h1 n h2
    exact ⟨this,st b o this⟩
  have slotS:∀ b o,s'.heap.get? b=some o→b∈frs X.stack→∃ sl,h'.get? b=some { o with slots:=sl }:=fun b o h n=>by
    obtain ⟨_,o',ho',hd⟩:=F.ff.mem n
    rw [h] at ho'
    cases ho'
    exact us b o h hd
  have trk:∀ b o,H' b=some o→b ∉ frs X.stack:=fun b o h z=>by
    obtain ⟨_,o',ho',_⟩:=F.I0.stack.mem z
    have:=F.un.free b o' ho' (F.I0.stkFree b z) (by simp)
    rw [h] at this
    cases this
  refine ⟨F.I0,F.os,F.bare,⟨fun b o h n hb hx=>?_,fun b o h n hb hx=>?_,F.un.free,fun b o h hx=>?_,F.un.tups,F.un.frzs,F.un.tbls⟩,?_,F.he,F.hes,st,ff,fun b o h n h2=>?_⟩
  · exact (keepC b o (.inl ⟨_,h⟩) (F.un.keep b o h n hb hx) hb).2
  · obtain ⟨sl,e1⟩:=F.un.slot b o h n hb hx
    obtain ⟨sl2,e2⟩:=slotS b _ e1 hb
    exact ⟨sl2,e2⟩
  · obtain ⟨o1,e1⟩:=F.un.there b o h hx
    by_cases hb:b∈frs X.stack
    · obtain ⟨sl,e2⟩:=slotS b _ e1 hb
      exact ⟨_,e2⟩
    · exact ⟨_,(keepC b o1 (.inl ⟨_,h⟩) e1 hb).2⟩
  · exact F.hok.keptAt fun b o u h1 h2=>(keepC b u (.inr ⟨_,h1⟩) h2 (trk b o h1)).2
  · have:∃ u,s'.heap.get? b=some u:=by
      rcases h with ⟨u,h⟩ | ⟨u,h⟩
      · exact F.un.there b u h (by simp)
      · exact (F.hok b u h).there'
    obtain ⟨u,h1⟩:=this
    obtain ⟨h4,h5⟩:=keepC b u h h1 n
    have h2':h'.get? b=some o:=h2
    rw [h2'] at h5
    cases h5
    exact h4
end
end L2
namespace L2
open PySem PySem.Spec PySem.Calls PyProof.Rows PySem.W
abbrev Cx.inSuite (X:Cx) (Ax:Around):Cx:={ X with A:=Ax,calm:=false,xe:=fun _ _=>False }
abbrev Cx.tried (X:Cx) (pn:List (Addr × Obj)) (Ex:Value→Shared→Prop):Cx:={ X with pn:=pn,xe:=Ex }
section
variable {X:Cx} {pins pn:List (Addr × Obj)} {σ:St} {H:Hp} {s:Shared} {Ax:Around} {Ex:Value→Shared→Prop}
theorem Inv.suite (I:Inv X pins σ H s) (hA:Ax.frames=X.A.frames):Inv (X.inSuite Ax) pins σ H s :=
  ⟨⟨I.ok.mod,I.ok.kind,I.ok.glob,I.ok.blt,I.ok.above,I.ok.inj,I.ok.has,I.ok.cab,fun z=>Bool.noConfusion z,hA.trans I.ok.frames,I.ok.stk,I.ok.exf,I.ok.bs,I.ok.bsz,I.ok.noex,I.ok.exfs,I.ok.funs,I.ok.frf⟩,I.os,I.bare,I.base,I.loc,I.cell,I.free,I.freeC,I.pin,I.hok,I.len⟩
theorem Inv.unsuite (I:Inv (X.inSuite Ax) pins σ H s) (ok:X.Ok):Inv X pins σ H s:=⟨ok,I.os,I.bare,I.base,I.loc,I.cell,I.free,I.freeC,I.pin,I.hok,I.len⟩
theorem Inv.tried (I:Inv X pins σ H s):Inv (X.tried (X.pn++pins) Ex) [] σ H s :=
  ⟨⟨I.ok.mod,I.ok.kind,I.ok.glob,I.ok.blt,I.ok.above,I.ok.inj,I.ok.has,I.ok.cab,I.ok.hd,I.ok.frames,I.ok.stk,I.ok.exf,I.ok.bs,I.ok.bsz,I.ok.noex,I.ok.exfs,I.ok.funs,I.ok.frf⟩,I.os,I.bare,I.base,I.loc,I.cell,I.free,I.freeC,fun p hp=>I.pin p (by simpa using hp),I.hok,I.len⟩
theorem Inv.untried {pins':List (Addr × Obj)} (I:Inv (X.tried (X.pn++pins) Ex) pins' σ H s):Inv X pins σ H s :=
  ⟨⟨I.ok.mod,I.ok.kind,I.ok.glob,I.ok.blt,I.ok.above,I.ok.inj,I.ok.has,I.ok.cab,I.ok.hd,I.ok.frames,I.ok.stk,I.ok.exf,I.ok.bs,I.ok.bsz,I.ok.noex,I.ok.exfs,I.ok.funs,I.ok.frf⟩,I.os,I.bare,I.base,I.loc,I.cell,I.free,I.freeC,fun p hp=>I.pin p (List.mem_append_left _ hp),I.hok,I.len⟩
end
def PHs (X:Cx) (hs:List ExceptHandler) (th:Addr→TS):Prop :=
  ∀ (pins:List (Addr × Obj)) (σ:St) (H0:Hp) (s0:Shared) (H':Hp) (e C t:Addr) (b1:Heap) (s':Shared) (D:Ends),Fl X pins σ H0 s0 H' e b1 s'→Heap.FlyingW b1 X.stack e (.ref C) (.ref t) s'.heap→th C D σ H' →
    wpAny (model X.prog X.w) X.A (handleBy (.ref e) X.env hs) (SP X pins D) X.xe s'
theorem phs_nil {X:Cx}:PHs X [] fun _ _ _ _=>False:=fun _ _ _ _ _ _ _ _ _ _ _ _ _ h=>h.elim
def Ends.as (D:Ends) (i:Nat):Ends:={ nx:=fun σ H=>D.nx (σ.set i none) H,rt:=D.rt,bk:=fun σ H=>D.bk (σ.set i none) H,ct:=fun σ H=>D.ct (σ.set i none) H }
def tExc (K:PySem.W.Frag) (C':Addr) (i:Nat) (tb:TS) (tr:Addr→TS):Addr→TS:=fun C D σ H=>∃ b,mroIn K C (.ref C')=some b∧if b=true then ∀ e,H e=none→tb (D.as i) (σ.set i (some (.ref e))) (upd H e (excO e C)) else tr C D σ H
theorem phs_as {X:Cx} {x n:Str} {C':Addr} {np pos:Pos} {i:Nat} {b₀:Stmt} {suite:List Stmt} {rest:List ExceptHandler} {tb:TS} {tr:Addr→TS} (K:PySem.W.Frag) (hN:X.N.Nodup) (hi:X.N[i]? = some n) (hk:X.env.kindOf n=some .local)
    (hg:Gl X x) (hm:X.mg x=some (.ref C')) (hC:(clsIn K C').isSome=true) (hnt:instIn K (.ref C') (.type "tuple")=some false) (hbx:mroIn K C' (.type "BaseException")=some true)
    (hb:∀ Ax:Around,PSs (X.inSuite Ax) (b₀ :: suite) tb) (hr:PHs X rest tr) (hK:X.K=K:=by rfl) (hex:X.ex=[]:=by rfl) (hdb:(x == ("__debug__" : Str))=false:=by decide) :
    PHs X (.ExceptHandler (some (.Name x np)) (some n) (b₀ :: suite) pos :: rest) (tExc K C' i tb tr):=by
  subst hK
  intro pins σ H0 s0 H' e C t b1 s' D F fly h
  obtain ⟨b,hb1,h⟩:=h
  have I:=F.inv
  have IS:Inv (X.inSuite (X.A.mark (some (.ref e)))) pins σ H' s':=I.suite rfl
  refine wpAny_handleBy_cons (codeAny_handlers_test ?_) (by intro q;cases q)
  refine ld_glob (X:=X.inSuite (X.A.mark (some (.ref e)))) IS hg hm ?_ hdb
  obtain ⟨oe,vs,he,hc,_⟩:=fly.first
  refine xm_match (x:=e) (D:=C) (ox:=oe) I.kIn ⟨he,hc⟩ hC hnt hbx hb1 ?_
  cases b with
  | false =>
    show wpAny _ _ (handleBy _ _ _) _ _ _
    exact hr pins σ H0 s0 H' e C t b1 s' D F fly h
  | true =>
    have h1:=h
    rw [if_pos rfl] at h1
    show codeAny _ _ (.handlers _ _ _) _ _
    refine codeAny_handlers_suite_as ?_
    refine lands_againW fly fun h6 fly6 sm6=>?_
    have F6:=F.move fly6.1 fly6.2.2.1 sm6
    have I6:=F6.inv
    obtain ⟨oe6,vs6,he6,hc6,_⟩:=fly6.first
    have live:∀ b o,s0.heap.get? b=some o→b≠e:=fun b o h z=>by rw [z,F.hes] at h;cases h
    have I7:Inv X pins σ (upd H' e (excO e C)) { s' with heap:=h6 }:=by
      refine I6.track F.he ?_ ?_ (fun y c hy=>?_) (fun p hp=>?_) ⟨⟨oe6,he6,hc6⟩,⟨oe6,he6⟩,?_⟩
      · cases z:X.s₀.heap.get? e with
        | none=>rfl
        | some o =>
          obtain ⟨u,hu⟩:=F.I0.base.there e o z (by rw [hex];simp)
          rw [F.hes] at hu
          cases hu
      · obtain ⟨m,⟨o,_,_,ho,_⟩,_⟩:=F.I0.loc
        exact (live _ o ho).symm
      · obtain ⟨v,o,ho,_⟩:=F.I0.cell y c hy
        exact live c o ho
      · exact live p.1 p.2 (F.I0.pin p hp).1
      · rintro h1' h2' ⟨ox,a1,a2⟩ k
        exact ⟨ox,k ox a1,a2⟩
    refine store_ok (X:=X) (v:=.ref e) I7 hN hi (.inl hk) rfl (fun s8 I8=>?_) (.inr hk)
    have I8':Inv (X.inSuite (X.A.mark (some (.ref e)))) pins (σ.set i (some (.ref e))) (upd H' e (excO e C)) s8:=I8.suite rfl
    refine wpAny_mono (hb (X.A.mark (some (.ref e))) pins s8 _ _ (D.as i) I8' (h1 e F.he)) (fun f s9 h9=>?_) fun _ _ z=>z.elim
    show wpAny _ _ (do bindName X.env n .none;unbindBehindTheSuite X.env n pos) _ _ _
    cases f with
    | next =>
      obtain ⟨σ',H9,I9,q⟩:=h9
      exact name_goes (I9.unsuite I.ok) hN hi hk fun s10 I10=>⟨_,_,I10,q⟩
    | brk =>
      obtain ⟨σ',H9,I9,q⟩:=h9
      exact name_goes (I9.unsuite I.ok) hN hi hk fun s10 I10=>⟨_,_,I10,q⟩
    | cont =>
      obtain ⟨σ',H9,I9,q⟩:=h9
      exact name_goes (I9.unsuite I.ok) hN hi hk fun s10 I10=>⟨_,_,I10,q⟩
    | ret u =>
      obtain ⟨v,σ',H9,I9,r,q⟩:=h9
      exact name_goes (I9.unsuite I.ok) hN hi hk fun s10 I10=>⟨v,_,_,I10,r,q⟩
def xTry (N:Nat) (th:Addr→TS) (D:Ends):XK:=fun c _ H'=>∃ C,c=.ref C∧∀ σ':St,σ'.length=N→th C D σ' H'
def tTry (N:Nat) (tb:XK→TS) (th:Addr→TS):TS:=fun D σ H=>tb (xTry N th D) D σ H
theorem ps_try {X:Cx} {body:List Stmt} {h₀:ExceptHandler} {hs:List ExceptHandler} {pos:Pos} {tb:XK→TS} {th:Addr→TS} (hst:X.stack=X.env :: X.outer) (hfr:X.env.frame=some X.env.locals)
    (hb:∀ (pn:List (Addr × Obj)) (Ex:Value→Shared→Prop) (E1:XK),Passes (CX1 X.prog X.w) (X.tried pn Ex) E1→PSs (X.tried pn Ex) body (tb E1)) (hh:PHs X (h₀ :: hs) th) :
    PS X (.Try body (h₀ :: hs) [] [] pos) (tTry X.N.length tb th):=by
  intro pins s σ H D I h
  refine wpAny_Try_except ?_
  have hp:Passes (CX1 X.prog X.w) (X.tried (X.pn++pins) fun e s₁=>wpAny (model X.prog X.w) X.A (noteFrame e X.env) (fun _ s₂=>wpAny (model X.prog X.w) X.A (setFlight e none) (fun _ s₃=>wpAny (model X.prog X.w) X.A (handleBy e X.env (h₀ :: hs)) (SP X pins D) X.xe s₃) X.xe s₂) X.xe s₁) (xTry X.N.length th D):=by
    intro pins' σ' H0 s0 u s' I' hx
    obtain ⟨e,t,cls,H',b1,rfl,hos,hbare,un,hok,he,hes,hfl,cov,C,rfl,q⟩:=hx
    have I2:Inv X pins σ' H0 s0:=I'.untried
    have F:Fl X pins σ' H0 s0 H' e b1 s':=⟨I2,hos,hbare,un,hok,he,hes,hfl.1,hfl.2.2.1,cov⟩
    have hfl':Heap.FlyingW b1 (X.env :: X.outer) e (.ref C) (.ref t) s'.heap:=by
      have:=hfl
      rw [show (X.tried (X.pn++pins) fun e s₁=>wpAny (model X.prog X.w) X.A (noteFrame e X.env) (fun _ s₂=>wpAny (model X.prog X.w) X.A (setFlight e none) (fun _ s₃=>wpAny (model X.prog X.w) X.A (handleBy e X.env (h₀ :: hs)) (SP X pins D) X.xe s₃) X.xe s₂) X.xe s₁).stack=X.stack from rfl,hst] at this
      exact this
    refine wpAny_looks_onW (by rw [I.ok.frames,hst]) hfr hfl' fun h4 held4 sm4=>?_
    have F4:=F.move held4.1 (by rw [hst];exact held4.2.2.1) sm4
    refine wpAny_landsW held4 fun h5 fly5 sm5=>?_
    have F5:=F4.move fly5.1 (by rw [hst];exact fly5.2.2.1) sm5
    exact hh pins σ' H0 s0 H' e C t b1 _ D F5 (by rw [hst];exact fly5) (q σ' I2.len)
  refine wpAny_mono (hb (X.pn++pins) _ (xTry X.N.length th D) hp [] s σ H D I.tried h) (fun f s1 h1=>?_) fun _ _ z=>z
  cases f with
  | next =>
    obtain ⟨σ',H',I1,q⟩:=h1
    exact wpAny_execs_nil ⟨σ',H',I1.untried,q⟩
  | brk =>
    obtain ⟨σ',H',I1,q⟩:=h1
    exact ⟨σ',H',I1.untried,q⟩
  | cont =>
    obtain ⟨σ',H',I1,q⟩:=h1
    exact ⟨σ',H',I1.untried,q⟩
  | ret u =>
    obtain ⟨v,σ',H',I1,r,q⟩:=h1
    exact ⟨v,σ',H',I1.untried,r,q⟩
def rIsExc (K:PySem.W.Frag):List V→Hp→VK→Prop:=fun xs H Q=>∃ (e D:Addr) (c:V) (b:Bool),xs=[.ref e,c]∧H e=some (excO e D)∧ExcK K D ∧
  ((∃ C,c=.ref C∧(clsIn K C).isSome=true∧typeIn K (.ref C)=some (.type "type")∧mroIn K D (.ref C)=some b∧(D=C→b=true))∨(∃ T,c=.ty T∧typeOf (.type T)=pure (.type "type")∧mroIn K D (.type T)=some b))∧Q (.bl b) H
theorem call_isExcK {X:Cx} (K:PySem.W.Frag) {B:String} (FX:ExcAttrFacts B) (hK:X.K=K:=by rfl):CallR X (.builtin "isinstance") (rIsExc K):=by
  subst hK
  intro pins s σ H xs us Q I r h
  obtain ⟨e,D,c,b,rfl,he,EK,hc,q⟩:=h
  cases r with
  | cons r1 rr =>
    cases rr with
    | cons r2 rr =>
      cases rr
      cases r1
      obtain ⟨ox,hx⟩:=(show ObjOk X.prog X.w H s.heap e (excO e D) from I.hok e _ he).1
      have fin:∀ t,EP X pins σ Q (.bool b) { s with toks:=t }:=fun t=>⟨.bl b,H,I.tok t,rfl,q⟩
      rcases hc with ⟨C,rfl,h1,h2,h3,h4⟩ | ⟨T,rfl,h1,h2⟩
      · cases r2
        refine xi_call FX EK I.kIn hx (fun _ _ X'=>looks_typeIn X' h2) (fun _ _ X'=>isType_in X' h1) (fun _ _ X'=>looks_mroIn X' h3) (fun z=>h4 ?_) fin
        exact Value.ref.inj (beq_iff_eq.mp z)
      · cases r2
        refine xi_call FX EK I.kIn hx (fun _ _ _=>Looks.of_pure h1) (fun _ _ _=>Looks.of_pure rfl) (fun _ _ X'=>looks_mroIn X' h2) (fun z=>?_) fin
        cases beq_iff_eq.mp z
end L2
namespace L2
open PySem PySem.Spec PyProof.Rows
end L2
namespace L2
open PySem PySem.Spec PyProof.Rows
def rAll (K:PySem.W.Frag):List V→Hp→VK→Prop:=fun xs H Q=>∃ (l:Addr) (bs:List Bool),xs=[.ref l]∧SqL K H l (bs.map V.bl)∧Q (.bl (bs.all id)) H
theorem call_all_bools {X:Cx} (hc:X.calm=true):CallR X (.builtin "all") (rAll X.K):=by
  intro pins s σ H xs us Q I r h
  obtain ⟨l,bs,rfl,hq,q⟩:=h
  obtain ⟨u,rfl,ru⟩:=vals1 r
  cases ru
  obtain ⟨its,rv,pl,hz⟩:=I.list hq
  have hA:=I.ok.hd hc
  have lb:its.length=bs.length:=by have:=rv.length;rw [List.length_map] at this;exact this.symm
  refine call_all_walk (wpAny_pyIter_list pl.isList ?_)
  have hlt:l < s.heap.objs.size:=by obtain ⟨o,ho,_⟩:=pl.isList;exact Heap.lt_size ho
  refine ⟨s.heap.objs.size,_,_,_,_,_,fun i=>bs.getD i false,rfl,Walks.list (prog:=X.prog) (w:=X.w) (A:=X.A.in1) hA s.heap.objs.size l (Nat.ne_of_lt hlt) its.toArray,⟨⟨_,Heap.get?_push_size _ rfl,rfl,rfl⟩,pl.isList.push _⟩,fun i v s' Q' E' hv hQ=>?_,fun h' tk kk=>?_⟩
  · have hv':its[i]? = some v:=by simpa using hv
    have hi:i < bs.length:=by rw [← lb];exact (List.getElem?_eq_some_iff.mp hv').1
    obtain ⟨u,hu,ru⟩:=rv.get (i:=i) (x:=V.bl bs[i]) (by rw [List.getElem?_map,List.getElem?_eq_getElem hi];rfl)
    rw [hu] at hv'
    cases hv'
    cases (show v=Value.bool bs[i] from ru)
    refine wpAny_truthy_bool ?_
    have e:bs.getD i false=bs[i]:=by rw [List.getD_eq_getElem?_getD,List.getElem?_eq_getElem hi];rfl
    exact e ▸ hQ
  · have e:((List.range its.toArray.size).all fun i=>bs.getD i false)=bs.all id:=by
      have e1:its.toArray.size=bs.length:=by rw [List.size_toArray,lb]
      rw [e1]
      clear kk q hq rv lb pl hz
      rw [Bool.eq_iff_iff,List.all_eq_true,List.all_eq_true]
      constructor
      · intro h b hb
        obtain ⟨i,hi⟩:=List.mem_iff_getElem?.mp hb
        have:=h i (List.mem_range.mpr (List.getElem?_eq_some_iff.mp hi).1)
        rw [List.getD_eq_getElem?_getD,hi] at this
        exact this
      · intro h i hi
        have hi':=List.mem_range.mp hi
        rw [List.getD_eq_getElem?_getD,List.getElem?_eq_getElem hi']
        exact h _ (List.getElem_mem hi')
    rw [e]
    exact ⟨.bl _,H,I.kept (t':=tk) fun b o eb=>kk b o (fun z=>by
      have z':b=s.heap.objs.size:=by simpa using z
      exact absurd (Heap.lt_size eb) (by rw [z'];exact Nat.lt_irrefl _)) (Heap.get?_push_of_some _ eb),rfl,q⟩
theorem call_all_boolsK {X:Cx} (K:PySem.W.Frag) (hc:X.calm=true) (hK:X.K=K:=by rfl):CallR X (.builtin "all") (rAll K):=by subst hK;exact call_all_bools hc
end L2
namespace L2
open PySem PySem.Spec PyProof.Rows
section
variable {P:Program} {w:World} {A:Around} {E:Value→Shared→Prop}
end
end L2
namespace L2
open PySem PySem.Spec PyProof.Rows
abbrev iK (z:Str):Key:=Sum.inr z
def Cnt (ss:List Str) (c:Nat):Prop:=c≤ss.length∧(c=ss.length ↔ ss.Nodup)
theorem Cnt.nil:Cnt [] 0:=⟨Nat.le_refl _,by simp⟩
def kin (ss:List Str) (k:Key):Bool:=ss.any fun z=>decide (k=iK z)
end L2
namespace L2
open PySem PySem.Spec PyProof.Rows
end L2
namespace L2
open PySem PySem.Spec PyProof.Rows PySem.W
abbrev Fcts:=List (Nat × Nat)
def has (L:Fcts) (i j:Nat):Bool:=L.any fun p=>p.1 == i && p.2 == j
structure Ord (b:Nat→Nat→Bool) (n:Nat):Prop where
  irr:∀ i,b i i=false
  trans:∀ i j k,b i j=true→b j k=true→b i k=true
  tot:∀ i j,i < n→j < n→i≠j→b i j=false→b j i=true
structure Sor (b:Nat→Nat→Bool) (n m:Nat) (p:Array Nat):Prop where
  size:p.size=n
  lt:∀ x∈p.toList,x < n
  nd:p.toList.Nodup
  up:(p.toList.take m).Pairwise fun x y=>b x y=true
theorem getD_at {p:Array Nat} {i:Nat} (h:i < p.size):p.toList[i]? = some (p.getD i 0):=by
  rw [Array.getElem?_toList,Array.getD,dif_pos h]
  exact Array.getElem?_eq_getElem h
theorem Sor.below {b:Nat→Nat→Bool} {n m:Nat} {p:Array Nat} (S:Sor b n m p) {i j:Nat} (hij:i < j) (hj:j < m) (hm:m≤n):b (p.getD i 0) (p.getD j 0)=true:=by
  have hs:=S.size
  have h1:(p.toList.take m)[i]? = some (p.getD i 0):=by rw [List.getElem?_take_of_lt (by omega)];exact getD_at (by omega)
  have h2:(p.toList.take m)[j]? = some (p.getD j 0):=by rw [List.getElem?_take_of_lt hj];exact getD_at (by omega)
  obtain ⟨l1,e1⟩:=List.getElem?_eq_some_iff.mp h1
  obtain ⟨l2,e2⟩:=List.getElem?_eq_some_iff.mp h2
  have:=List.pairwise_iff_getElem.mp S.up i j l1 l2 hij
  rw [e1,e2] at this
  exact this
theorem Sor.mem {b:Nat→Nat→Bool} {n m:Nat} {p:Array Nat} (S:Sor b n m p) {i:Nat} (h:i < n):p.getD i 0 < n:=S.lt _ (List.mem_of_getElem? (getD_at (by rw [S.size];exact h)))
theorem Sor.ne {b:Nat→Nat→Bool} {n m:Nat} {p:Array Nat} (S:Sor b n m p) {i j:Nat} (hij:i < j) (h:j < n):p.getD i 0≠p.getD j 0:=by
  have hs:=S.size
  obtain ⟨l1,e1⟩:=List.getElem?_eq_some_iff.mp (getD_at (p:=p) (i:=i) (by omega))
  obtain ⟨l2,e2⟩:=List.getElem?_eq_some_iff.mp (getD_at (p:=p) (i:=j) (by omega))
  have:=List.pairwise_iff_getElem.mp S.nd i j l1 l2 hij
  rw [e1,e2] at this
  exact this
end L2
namespace L2
open PySem PySem.Spec PyProof.Rows PySem.W
abbrev Tri:=Addr × Str × Str
abbrev d0:Tri:=(0,⟨#[]⟩,⟨#[]⟩)
end L2
namespace L2
open PySem PySem.Spec PyProof.Rows
abbrev ts (x:List Nat):Str:=⟨x.toArray⟩
end L2
namespace L2
open PySem PyProof.Rows
section
variable {X:Cx} {e est:Expr} {te ts:TE} {p2 pos:Pos}
end
end L2
namespace L2
open PySem PySem.Spec PyProof.Rows
open AutoSeq1 (wpAny_loadPart')
section
variable {X:Cx} {l:Expr} {ta:TA} {elts:List Expr} {k:Nat} {tp p pos:Pos}
end
end L2
namespace L2
open PySem PySem.Spec PyProof.Rows PySem.W
section
variable {K:PySem.W.Frag} {x D:Addr} {ox:Obj}
theorem kitx_exc {B:String} (FX:ExcAttrFacts B) (EK:ExcK K D):PySem.W.KitX K (.ref x) (.ref D) (fun h=>XAt h x ox D) where
  ty:=fun _ _ _ I=>I.type
  it:=fun _ _ X _=>isType_in X EK.cls
  ne:=fun h tp dd its n sl X htp=>by
    have hcD:=EK.cls
    refine Bool.eq_false_iff.mpr fun q=>?_
    have e:D=tp:=Value.ref.inj (beq_iff_eq.mp q)
    subst e
    unfold clsIn at hcD
    split at hcD
    · rename_i c' d' cd' sl' ho
      have z:=(X _ _ ho).symm.trans htp
      cases z
    · cases hcD
  ca:=fun X I k=>xi_class FX X I (fun _=>xi_find X EK.find EK.get EK.takes) EK.obj EK.bexc EK.ga EK.gt k
end
theorem vals_ref:∀ {Cs:List Addr} {its:List Value},Vals (Cs.map V.ref) its→its=Cs.map Value.ref
  | [],_,.nil=>rfl
  | C :: Cs,_,.cons h r=>by
    cases (show _=Value.ref C from h)
    rw [vals_ref r]
    rfl
def rIsExcT (K:PySem.W.Frag):List V→Hp→VK→Prop:=fun xs H Q=>∃ (e tp D:Addr) (Cs:List Addr) (b:Bool),xs=[.ref e,.ref tp]∧H e=some (excO e D)∧ExcK K D∧H tp=some (.tup (Cs.map V.ref))∧PySem.W.kitAny K (.ref D) (Cs.map Value.ref)=some b∧Q (.bl b) H
theorem call_isExcTK {X:Cx} (K:PySem.W.Frag) {B:String} (FX:ExcAttrFacts B) (hK:X.K=K:=by rfl):CallR X (.builtin "isinstance") (rIsExcT K):=by
  subst hK
  intro pins s σ H xs us Q I r h
  obtain ⟨e,tp,D,Cs,b,rfl,he,EK,htp,hb,q⟩:=h
  obtain ⟨u,v,rfl,ru,rv⟩:=vals2 r
  cases (show u=Value.ref e from ru)
  cases (show v=Value.ref tp from rv)
  obtain ⟨ox,hx⟩:=(show ObjOk X.prog X.w H s.heap e (excO e D) from I.hok e _ he).1
  obtain ⟨_,its,rv',p,_⟩:=(show ObjOk X.prog X.w H s.heap tp (.tup (Cs.map V.ref)) from I.hok tp _ htp)
  obtain ⟨o,h1,h2,n,h3⟩:=p
  obtain ⟨oc,od,odt,osl⟩:=o
  simp only at h2 h3
  subst h2 h3
  have ei:=vals_ref rv'
  subst ei
  exact PySem.W.kia_tup (kitx_exc FX EK) I.kIn hx h1 hb (fun z=>nomatch z) fun tk=>⟨.bl b,H,I.tok _,rfl,q⟩
theorem kit_none {K:PySem.W.Frag} {D:Addr}:∀ {Cs:List Addr},(∀ C∈Cs,D≠C∧(clsIn K C).isSome=true∧typeIn K (.ref C)=some (.type "type")∧mroIn K D (.ref C)=some false)→PySem.W.kitAny K (.ref D) (Cs.map Value.ref)=some false
  | [],_=>rfl
  | C :: Cs,h=>by
    obtain ⟨h1,h2,h3,h4⟩:=h C List.mem_cons_self
    have ih:=kit_none (K:=K) (D:=D) (Cs:=Cs) fun C hC=>h C (List.mem_cons_of_mem _ hC)
    rw [List.map_cons]
    unfold PySem.W.kitAny
    have e1:PySem.W.kitOne K (.ref D) (.ref C)=some false:=by
      unfold PySem.W.kitOne
      rw [if_neg (fun z=>h1 (Value.ref.inj (beq_iff_eq.mp z)))]
      unfold PySem.W.kitCls
      simp only
      rw [if_pos (by rw [h2,h3];rfl)]
      exact h4
    rw [e1]
    exact ih
end L2
namespace L2
open PySem PySem.Spec PySem.Calls PyProof.Rows PySem.W
end L2
namespace L2
open PySem PySem.Spec PyProof.Rows
end L2
namespace L2
end L2
namespace L2
open PySem PySem.SeqAt PySem.Spec PyProof.Rows
end L2
namespace L2
open PySem PySem.Spec PyProof.Rows
end L2
namespace L2
open PySem PySem.Spec PyProof.Rows
end L2
namespace L2
open PySem PySem.Spec PyProof.Rows PySem.SeqAt
end L2
namespace L2
open PySem PySem.Spec PyProof.Rows PySem.SeqAt
end L2
namespace L2
open PySem PySem.Spec PyProof.Rows
inductive VDec (K:PySem.W.Frag) (H:Hp):Nat→V→V→Bool→Prop where
  | flat {n:Nat} {x y:V} (hx:flatV x=true) (hy:flatV y=true):VDec K H n x y (eqV x y)
  | same {n:Nat} {a:Addr}:VDec K H n (.ref a) (.ref a) true
  | lt {n:Nat} {a b:Addr} {xs ys:List V} (ha:SqL K H a xs) (hb:SqT K H b ys):VDec K H n (.ref a) (.ref b) false
  | tup {n:Nat} {a b:Addr} {xs ys:List V} (e:Nat→Bool) (hne:a≠b) (ha:SqT K H a xs) (hb:SqT K H b ys) (h:∀ (i:Nat) x y,xs[i]? = some x→ys[i]? = some y→VDec K H n x y (e i)):VDec K H (n+1) (.ref a) (.ref b) ((List.range (min xs.length ys.length)).all e && xs.length == ys.length)
section
variable {X:Cx} {pins:List (Addr × Obj)} {σ:St} {H:Hp} {s:Shared}
end
end L2
namespace L2
open PySem PySem.Spec PyProof.Rows
end L2
namespace L2
open PySem PySem.Spec PyProof.Rows
end L2
namespace L2
open PySem PySem.Spec PyProof.Rows
end L2
namespace L2
open PySem PySem.Spec PyProof.Rows
end L2
namespace PySem
namespace F
theorem lri_no_len:typeLookup (.type "list_reverseiterator") "__len__" = pure none:=by rw [typeLookup_type,builtinLookup_eq_fast];kernel_rfl
theorem lri_hint:typeLookup (.type "list_reverseiterator") "__length_hint__" = pure (some (.builtin "list_reverseiterator.__length_hint__")):=by rw [typeLookup_type,builtinLookup_eq_fast];kernel_rfl
theorem lri_self:isSubtype (.type "list_reverseiterator") (.type "list_reverseiterator")=pure true:=by rw [isSubtype_type];kernel_rfl
end F
section
variable {prog:Program} {w:World} {A:Around} {E:Value→Shared→Prop} {s:Shared}
theorem ext_lrev {R:Result→Shared→Prop} {I l S:Addr} {items:Array Value} {res:Value} {c:Nat} (hh:A.in1.in1.handled=none) (hne:l≠I) (hSI:S≠I) (hSl:S≠l) (hit:s.heap.IsRevIter I l ((items.size:Int) - 1)) (hl:s.heap.IsList l items) (hn:items.size≤sizeLine)
    (hS:s.heap.get? S=some { cls:=.type "list",data:=.seq #[] c })
    (hR:∀ s' acc' c',Moved (S :: [I]) (fun a b=>b=a) s s'→s'.heap.get? S=some { cls:=.type "list",dict:=none,data:=.seq acc' c',slots:=#[] }→ItemsOf (fun i v=>items[items.size - 1 - i]? = some v) acc' items.size→R (.ok (.ret res)) s') :
    wpAny (model prog w) A.in1 (Builtin.List.listExtendWith (.ref S) (.ref I) res)
      (fun fin s'=>match fin with | .done f=>R (.ok f) s' | .again c'=>c'.quiet=true∧codeAny (model prog w) A c' R s') (fun e s'=>R (.error e) s') s:=by
  have W:=(Walks.listRev (prog:=prog) (w:=w) (A:=A.in1) hh I l hne items).toS
  have hSf:S ∉ [I,l]:=fun z=>by
    rcases List.mem_cons.mp z with z | z
    · exact hSI z
    · exact hSl (List.mem_singleton.mp z)
  have e0:(items.size:Int) - 1 - ((0:Nat):Int)=(items.size:Int) - 1:=by omega
  have st:0≤items.size∧s.heap.IsRevIter I l ((items.size:Int) - 1 - ((0:Nat):Int))∧s.heap.IsList l items:=⟨Nat.zero_le _,by rw [e0];exact hit,hl⟩
  unfold Builtin.List.listExtendWith
  refine wpAny_bind (wpAny_typeOf hit.typeIs ?_)
  have h1:Builtin.List.listSameRef (.ref S) (.ref I)=false:=by simp [Builtin.List.listSameRef,hSI]
  have h2:(Value.type "list_reverseiterator" == Value.type "list")=false:=by decide
  have h3:(Value.type "list_reverseiterator" == Value.type "tuple")=false:=by decide
  simp only [h1,h2,h3,Bool.or_false,Bool.false_eq_true,if_false]
  refine wpAny_bind (wpAny_pyIter_revIter hit ?_)
  refine wpAny_bind (wpAny_holding ?_)
  unfold Builtin.List.listLengthHint
  refine wpAny_bind (wpAny_specialOf hit.typeIs F.lri_no_len ?_)
  show wpAny _ A.in1 (specialOf (Value.ref I) (Str.ofString "__length_hint__") >>= _) _ _ _
  refine wpAny_bind (wpAny_specialOf hit.typeIs F.lri_hint ?_)
  show wpAny _ A.in1 (isInstance (Value.ref I) (.type "list_reverseiterator") >>= _) _ _ _
  refine wpAny_bind (wpAny_isInstance (T:="list_reverseiterator") (b:=true) hit.typeIs F.lri_self ?_)
  refine wpAny_pure ?_
  rw [if_neg (by decide)]
  exact wpAny_pure ⟨plainId_quiet F.plain_extend_loop _,codeAny_extend_loopS W hn _ hSf _ items.size 0 _ _ _ rfl (Nat.zero_le _) st hS (ItemsOf.nil _) fun s' acc' c' hm hS' hacc=>hR s' acc' c' hm hS' hacc⟩
theorem call_list_lrev {Q:Value→Shared→Prop} {I l:Addr} {items:Array Value} (hh:A.in1.in1.in1.handled=none) (hne:l≠I) (hit:s.heap.IsRevIter I l ((items.size:Int) - 1)) (hl:s.heap.IsList l items) (hn:items.size≤sizeLine)
    (hQ:∀ s' acc' c',Moved [I] (fun a b=>b=a) s s'→s'.heap.get? s.heap.objs.size=some { cls:=.type "list",dict:=none,data:=.seq acc' c',slots:=#[] }→ItemsOf (fun i v=>items[items.size - 1 - i]? = some v) acc' items.size→Q (.ref s.heap.objs.size) s') :
    wpAny (model prog w) A (call (.type "list") [.ref I]) Q E s:=by
  refine callType_codes (Q₁:=fun obj s₁=>obj=.ref s.heap.objs.size∧s₁ = { s with heap:=s.heap.push { cls:=.type "list",data:=.seq #[] } }) F.called_list (F.typeCall_list_1 _) F.entry_list_init (code_list_new _ ⟨rfl,rfl⟩) fun obj s₁ h₁=>?_
  obtain ⟨rfl,rfl⟩:=h₁
  have hS:(s.heap.push { cls:=.type "list",data:=.seq #[] }).get? s.heap.objs.size=some { cls:=.type "list",data:=.seq #[] }:=Heap.get?_push_size _ rfl
  refine ⟨⟨_,hS,rfl⟩,F.args_list_init_2 _ _,?_⟩
  have hSI:s.heap.objs.size≠I:=fun z=>by
    obtain ⟨o,ho,_⟩:=hit
    exact Nat.lt_irrefl _ (z ▸ Heap.lt_size ho)
  have hSl:s.heap.objs.size≠l:=fun z=>by
    obtain ⟨o,ho,_⟩:=hl
    exact Nat.lt_irrefl _ (z ▸ Heap.lt_size ho)
  show wpAny _ _ (do let old ← Builtin.List.listItems (.ref s.heap.objs.size);Builtin.List.listUpdate (.ref s.heap.objs.size) (fun _=>#[]);letGo old.toList.reverse;Builtin.List.listExtendWith (.ref s.heap.objs.size) (.ref I) .none) _ _ _
  refine wpAny_bind ?_
  unfold Builtin.List.listItems
  refine wpAny_bind (wpAny_seqItems hS rfl (wpAny_pure ?_))
  show wpAny _ _ (updateSeq s.heap.objs.size (fun _=>#[]) >>= fun _=>letGo (#[]:Array Value).toList.reverse >>= fun _=>Builtin.List.listExtendWith (.ref s.heap.objs.size) (.ref I) .none) _ _ _
  refine wpAny_bind (wpAny_updateSeq hS rfl ?_)
  have hS₂:=Heap.get?_update_self (Obj.mapSeq (fun _=>(#[]:Array Value))) hS rfl
  have oth:∀ b o,s.heap.get? b=some o→((s.heap.push { cls:=.type "list",data:=.seq #[] }).update s.heap.objs.size (Obj.mapSeq (fun _=>(#[]:Array Value)))).get? b=some o :=
    fun b o e=>(Heap.get?_update_other _ _ (Nat.ne_of_gt (Heap.lt_size e))).trans (Heap.get?_push_of_some _ e)
  refine wpAny_bind (wpAny_letGo ?_)
  refine ext_lrev (A:=A.in1) hh hne hSI hSl (hit.at fun o e=>oth _ o e) ?_ hn hS₂ fun s' acc' c' hm hS' hacc=>?_
  · obtain ⟨o,ho,r⟩:=hl
    exact ⟨o,oth _ _ ho,r⟩
  · refine ⟨rfl,hQ s' acc' c' ⟨fun b o hb e=>hm.heap b o (fun hb'=>?_) (oth b o e),hm.gens,hm.drawn,hm.os,hm.toks⟩ hS' hacc⟩
    rcases List.mem_cons.mp hb' with z | z
    · exact Nat.lt_irrefl _ (z ▸ Heap.lt_size e)
    · exact hb z
end
end PySem
namespace L2
open PySem PySem.Spec PyProof.Rows
def tLR (K:PySem.W.Frag) (ta:TA):TE:=fun σ H Q=>ta σ H fun vs H1=>∃ (a:Addr) (xs:List V),vs=[.ref a]∧SqL K H1 a xs∧∀ d,H1 d=none→Q (.ref d) (upd H1 d (.lst xs.reverse))
theorem pe_listRev {X:Cx} {e1:Expr} {ta:TA} {p p2 pos pos2:Pos} (hc:X.calm=true) (hgd:Gl X "list") (hmd:X.mg "list" = none) (hgz:Gl X "reversed") (hmz:X.mg "reversed" = none) (hl:PA X [e1] ta)
    (hs:starEach [e1] X.env=[(false,eval e1 X.env)]:=by rfl)
    (he:starEach [.Call (.Name "reversed" p2) [e1] [] pos2] X.env=[(false,eval (.Call (.Name "reversed" p2) [e1] [] pos2) X.env)]:=by rfl) :
    PE X (.Call (.Name "list" p) [.Call (.Name "reversed" p2) [e1] [] pos2] [] pos) (tLR X.K ta):=by
  intro pins s σ H Q I h
  refine wpAny_Call_Name_kw (ld_blt I hgd hmd (show bootBuiltins "list" = some (.type "list") by first | exact PySem.boot_list | decide +kernel) ?_)
  refine PyProof.Rows.callWith_type1 ?_ he rfl
  rw [he]
  show wpAny _ _ (spliced ((false,eval (.Call (.Name "reversed" p2) [e1] [] pos2) X.env) :: backTo pos (starEach [] X.env))) _ _ s
  refine Calls.spliced_cons ?_
  refine wpAny_Call_Name_kw (ld_blt I hgz hmz (show bootBuiltins "reversed" = some (.type "reversed") by decide +kernel) (PyProof.Rows.callWith_type1 (thn (hl pos2 pins s σ H _ I h) fun us s1 ⟨vs,H1,I1,r1,q1⟩=>?_) hs rfl))
  obtain ⟨a,xs,rfl,hq,q⟩:=q1
  obtain ⟨u,rfl,ru⟩:=vals1 r1
  cases ru
  obtain ⟨its,rv,pl,hz⟩:=I1.list hq
  refine call_reversed_list pl.isList ?_
  refine Calls.spliced_nil ?_
  have hA:=I1.ok.hd hc
  obtain ⟨ol,hol,hcl⟩:=id pl.isList
  have hne:a≠s1.heap.objs.size:=Nat.ne_of_lt (Heap.lt_size hol)
  have hlen:=rv.length
  refine call_list_lrev (s:={ s1 with heap:=s1.heap.push (revObj a ((its.toArray.size:Int) - 1)) }) hA hne ⟨_,Heap.get?_push_size _ rfl,rfl,rfl⟩ ⟨ol,Heap.get?_push_of_some _ hol,hcl⟩ (by rw [List.size_toArray,← hlen];exact hz) fun s' acc' c' hm hS hacc=>?_
  have hsz:(s1.heap.push (revObj a ((its.toArray.size:Int) - 1))).objs.size=s1.heap.objs.size+1:=Heap.size_push _ _
  obtain ⟨h',g,d,tk,os⟩:=s'
  have m1:=hm.gens
  have m2:=hm.drawn
  have m3:=hm.os
  dsimp only at m1 m2 m3
  subst m1 m2 m3
  have hv:Vals xs.reverse acc'.toList:=by
    have hl2:acc'.toList.length=its.length:=by rw [Array.length_toList];have:=hacc.1;simpa using this
    refine vals_by (by rw [List.length_reverse,hl2];exact hlen) fun i x u ex eu=>?_
    have hi:i < xs.length:=by have:=(List.getElem?_eq_some_iff.mp ex).1;rwa [List.length_reverse] at this
    have h2:=hacc.2 i u (by rw [← Array.getElem?_toList];exact eu)
    rw [List.getElem?_reverse hi] at ex
    obtain ⟨u',hu',ru'⟩:=rv.get ex
    have e3:its.toArray[its.toArray.size - 1 - i]? = some u':=by
      rw [List.size_toArray,← hlen,List.getElem?_toArray]
      exact hu'
    rw [e3] at h2
    cases h2
    exact ru'
  have kk:∀ b o,s1.heap.get? b=some o→h'.get? b=some o:=fun b o e=>hm.heap b o (fun hb=>absurd (List.mem_singleton.mp hb ▸ Heap.lt_size e) (Nat.lt_irrefl _)) (Heap.get?_push_of_some _ e)
  rw [hsz] at hS ⊢
  refine ⟨.ref (s1.heap.objs.size+1),_,I1.laid (a:=s1.heap.objs.size+1) (o:=.lst xs.reverse) (t':=tk) kk (Nat.le_succ _) ?_,rfl,q _ (I1.hok.fresh (Nat.le_succ _))⟩
  exact ⟨by rw [List.length_reverse];exact hz,acc'.toList,c',hv,by simpa using hS⟩
theorem pe_listRevK {X:Cx} (K:PySem.W.Frag) {e1:Expr} {ta:TA} {p p2 pos pos2:Pos} (hc:X.calm=true) (hgd:Gl X "list") (hmd:X.mg "list" = none) (hgz:Gl X "reversed") (hmz:X.mg "reversed" = none) (hl:PA X [e1] ta)
    (hs:starEach [e1] X.env=[(false,eval e1 X.env)]:=by rfl)
    (he:starEach [.Call (.Name "reversed" p2) [e1] [] pos2] X.env=[(false,eval (.Call (.Name "reversed" p2) [e1] [] pos2) X.env)]:=by rfl) (hK:X.K=K:=by rfl) :
    PE X (.Call (.Name "list" p) [.Call (.Name "reversed" p2) [e1] [] pos2] [] pos) (tLR K ta):=by subst hK;exact pe_listRev hc hgd hmd hgz hmz hl hs he
end L2
namespace Lw
open PySem L2
abbrev tx (w:List Nat):V:=.str ⟨w.toArray⟩
abbrev Rule:=Nat × List Nat
structure Good (first:List Nat) (rs:List Rule):Prop where
  few:rs.length≤8
  rise:(rs.map (·.1)).Pairwise (· < ·)
  abc:∀ q∈rs,97≤q.1∧q.1≤122
  wl:∀ q∈rs,q.2.length≤6
  win:∀ q∈rs,∀ c∈q.2,c∈rs.map (·.1)
  fl:first.length≤12
  fin:∀ c∈first,c∈rs.map (·.1)
inductive RulesAt (H:Hp):List Addr→List Rule→Prop where
  | nil:RulesAt H [] []
  | cons {p:Addr} {ps:List Addr} {c:Nat} {w:List Nat} {rs:List Rule}:H p=some (.tup [sign c,tx w])→RulesAt H ps rs→RulesAt H (p :: ps) ((c,w) :: rs)
structure BookAt (H:Hp) (t:Addr) (first:List Nat) (rs:List Rule):Prop where
  ex:∃ r ps,H t=some (.tup [tx first,.ref r])∧H r=some (.tup (ps.map V.ref))∧RulesAt H ps rs
def TupS (H H':Hp):Prop:=∀ c xs,H c=some (.tup xs)→H' c=some (.tup xs)
theorem TupS.refl (H:Hp):TupS H H:=fun _ _ h=>h
theorem TupS.trans {H H1 H2:Hp} (a:TupS H H1) (b:TupS H1 H2):TupS H H2:=fun c xs h=>b c xs (a c xs h)
theorem TupS.same {H H':Hp} (s:Same H H'):TupS H H':=fun c xs h=>s c _ h
theorem RulesAt.mono {H H':Hp} (s:TupS H H'):∀ {ps:List Addr} {rs:List Rule},RulesAt H ps rs→RulesAt H' ps rs
  | _,_,.nil=>.nil
  | _,_,.cons h r=>.cons (s _ _ h) (r.mono s)
theorem BookAt.mono {H H':Hp} {t:Addr} {first:List Nat} {rs:List Rule} (s:TupS H H') (b:BookAt H t first rs):BookAt H' t first rs:=by
  obtain ⟨r,ps,h1,h2,h3⟩:=b.ex
  exact ⟨r,ps,s _ _ h1,s _ _ h2,h3.mono s⟩
theorem RulesAt.len {H:Hp}:∀ {ps:List Addr} {rs:List Rule},RulesAt H ps rs→ps.length=rs.length
  | _,_,.nil=>rfl
  | _,_,.cons _ r=>congrArg (· + 1) r.len
theorem RulesAt.get {H:Hp}:∀ {ps:List Addr} {rs:List Rule} {i:Nat} {p:Addr},RulesAt H ps rs→ps[i]? = some p→∃ c w,rs[i]? = some (c,w)∧H p=some (.tup [sign c,tx w])
  | _,_,i,p,.nil,e=>by cases i <;> cases e
  | _,_,0,p,.cons (c:=c) (w:=w) h r,e=>by
    have e':=Option.some.inj e
    subst e'
    exact ⟨c,w,rfl,h⟩
  | _,_,i+1,p,.cons h r,e=>r.get (i:=i) e
theorem Same.add {H:Hp} {l:Addr} {o:HO} (h:H l=none):Same H (upd H l o):=fun b u e=>by rw [upd_ne (ne_of_none e h)];exact e
theorem take_all {α:Type} (xs:List α):xs.take xs.length=xs:=List.take_length
end Lw
namespace Lw
open PySem L2
end Lw
namespace Lw
open PySem L2
structure RowsAt (H0 H:Hp) (ls:List Addr) (vs:List (List V)):Prop where
  len:ls.length=vs.length
  at_:∀ (i:Nat) a v,ls[i]? = some a→vs[i]? = some v→H a=some (.lst v)
  new:∀ a∈ls,H0 a=none
  nd:ls.Nodup
theorem RowsAt.nil {H0 H:Hp}:RowsAt H0 H [] []:=⟨rfl,(fun i a v e _=>by simp at e),(fun a h=>by simp at h),List.nodup_nil⟩
theorem RowsAt.mono {H0 H H':Hp} {ls:List Addr} {vs:List (List V)} (r:RowsAt H0 H ls vs) (s:Same H H'):RowsAt H0 H' ls vs:=⟨r.len,fun i a v e1 e2=>s _ _ (r.at_ i a v e1 e2),r.new,r.nd⟩
theorem RowsAt.there {H0 H:Hp} {ls:List Addr} {vs:List (List V)} (r:RowsAt H0 H ls vs) {a:Addr} (h:a∈ls):∃ v,H a=some (.lst v)∧v∈vs:=by
  obtain ⟨i,e⟩:=List.mem_iff_getElem?.mp h
  have hi:i < vs.length:=by rw [← r.len];exact (List.getElem?_eq_some_iff.mp e).1
  exact ⟨vs[i],r.at_ i a _ e (by simp [hi]),List.getElem_mem hi⟩
structure TabAt (H0 H:Hp) (l:Addr) (ls:List Addr) (vs:List (List V)):Prop where
  top:H l=some (.lst (ls.map V.ref))
  rows:RowsAt H0 H ls vs
  new:H0 l=none
  out:l ∉ ls
theorem TabAt.mono {H0 H H':Hp} {l:Addr} {ls:List Addr} {vs:List (List V)} (t:TabAt H0 H l ls vs) (s:Same H H'):TabAt H0 H' l ls vs:=⟨s _ _ t.top,t.rows.mono s,t.new,t.out⟩
theorem TabAt.elder {H00 H0 H:Hp} {l:Addr} {ls:List Addr} {vs:List (List V)} (t:TabAt H0 H l ls vs) (s:Same H00 H0):TabAt H00 H l ls vs:=⟨t.top,⟨t.rows.len,t.rows.at_,fun a h=>s.free (t.rows.new a h),t.rows.nd⟩,s.free t.new,t.out⟩
end Lw
namespace Lw
open PySem PySem.Spec L2 PyProof.Rows
abbrev one (c:Nat):Str:=⟨#[c]⟩
end Lw
namespace Lw
open PySem L2
end Lw
namespace Lw
def dot (xs ys:List Int):Int:=(List.zipWith (· * ·) xs ys).sum
theorem dot_cons (x y:Int) (xs ys:List Int):dot (x :: xs) (y :: ys)=x * y+dot xs ys:=by
  unfold dot
  rw [List.zipWith_cons_cons,List.sum_cons]
theorem dot_nil_l (ys:List Int):dot [] ys=0:=by unfold dot;simp
theorem dot_nil_r (xs:List Int):dot xs []=0:=by unfold dot;simp
def colAt (T:List (List Int)) (j:Nat):List Int:=T.map fun r=>r.getD j 0
def stepC (k:Nat) (T:List (List Int)) (c:List Int):List Int:=(List.range k).map fun j=>dot c (colAt T j)
def cntN (k:Nat) (T:List (List Int)) (c:List Int):Nat→List Int
  | 0=>c
  | n+1=>stepC k T (cntN k T c n)
theorem stepC_len (k:Nat) (T:List (List Int)) (c:List Int):(stepC k T c).length=k:=by unfold stepC;simp
theorem cntN_len {k:Nat} {T:List (List Int)} {c:List Int} (h:c.length=k):∀ n,(cntN k T c n).length=k
  | 0=>h
  | n+1=>stepC_len _ _ _
def Bd (e:Nat) (c:List Int):Prop:=∀ x∈c,0≤x∧x < 2 ^ e
end Lw
namespace Lw
open PySem L2
theorem bits_abs {k:Int} {n:Nat} (h:k.natAbs < 2 ^ n):Builtin.Int.intBits k≤n:=by
  unfold Builtin.Int.intBits
  split
  · exact Nat.zero_le _
  · rename_i hz
    have h0:k.natAbs≠0:=by
      intro e
      apply hz
      simpa using Int.natAbs_eq_zero.mp e
    have:=(Nat.log2_lt h0).mpr h
    omega
def Bz (e:Nat) (c:List Int):Prop:=∀ x∈c,x.natAbs < 2 ^ e
theorem Bd.z {e:Nat} {c:List Int} (h:Bd e c):Bz e c:=fun x hx=>by
  obtain ⟨h1,h2⟩:=h x hx
  have h3:((x.natAbs:Nat):Int)=x:=Int.natAbs_of_nonneg h1
  have h4:((2 ^ e:Nat):Int)=(2:Int) ^ e:=by push_cast;rfl
  rw [← h3,← h4] at h2
  exact Int.ofNat_lt.mp h2
structure TabV (H:Hp) (l:Addr) (ls:List Addr) (vs:List (List Int)):Prop where
  top:H l=some (.lst (ls.map V.ref))
  len:ls.length=vs.length
  at_:∀ (i:Nat) a v,ls[i]? = some a→vs[i]? = some v→H a=some (.lst (v.map V.int))
theorem TabV.mono {H H':Hp} {l:Addr} {ls:List Addr} {vs:List (List Int)} (t:TabV H l ls vs) (s:Same H H'):TabV H' l ls vs:=⟨s _ _ t.top,t.len,fun i a v e1 e2=>s _ _ (t.at_ i a v e1 e2)⟩
theorem TabV.get {H:Hp} {l:Addr} {ls:List Addr} {vs:List (List Int)} (t:TabV H l ls vs) {i:Nat} {v:List Int} (e:vs[i]? = some v):∃ a,ls[i]? = some a∧H a=some (.lst (v.map V.int)):=by
  have hi:i < ls.length:=by rw [t.len];exact (List.getElem?_eq_some_iff.mp e).1
  exact ⟨ls[i],List.getElem?_eq_getElem hi,t.at_ i _ v (List.getElem?_eq_getElem hi) e⟩
def c0 (rs:List Rule) (w:List Nat):List Int:=rs.map fun q=>((w.count q.1:Nat):Int)
def lk:List Nat→List Int→Nat→Int
  | c :: cs,n :: ns,x=>if c=x then n else lk cs ns x
  | _,_,_=>0
def ltr (rs:List Rule):List Nat:=rs.map (·.1)
theorem Good.nd {first:List Nat} {rs:List Rule} (h:Good first rs):(ltr rs).Nodup:=h.rise.imp fun a=>Nat.ne_of_lt a
end Lw
namespace Lw
open PySem L2
theorem atI_last {α:Type} {xs:List α} {j:Nat} {v:α} (hl:xs.length=j+1) (h:xs[j]? = some v):atI xs (-1)=some v:=by
  unfold atI ixN
  rw [if_neg (by omega),if_pos (by omega)]
  have:(-1+(xs.length:Int)).toNat=j:=by omega
  rw [this]
  exact h
theorem cut_take (xs:List V) (m:Nat):cutV xs none (some (m:Int))=xs.take m:=by
  unfold cutV HT.sIx
  rw [List.drop_zero]
  simp only [Nat.sub_zero]
  by_cases h:m≤xs.length
  · congr 1
    first | (split <;> omega) | omega | simp [h] <;> omega
  · rw [List.take_of_length_le (l:=xs) (i:=m) (by omega)]
    refine List.take_of_length_le ?_
    first | (split <;> omega) | omega
theorem TabV.take {H H':Hp} {l d:Addr} {ls:List Addr} {vs:List (List Int)} (m:Nat) (t:TabV H l ls vs) (s:Same H H') (h:H' d=some (.lst ((ls.map V.ref).take m))):TabV H' d (ls.take m) (vs.take m):=by
  refine ⟨by rw [h,List.map_take],by rw [List.length_take,List.length_take,t.len],fun i a u e1 e2=>?_⟩
  rw [List.getElem?_take] at e1 e2
  split at e1
  · rename_i hi
    rw [if_pos hi] at e2
    exact s _ _ (t.at_ i a u e1 e2)
  · cases e1
theorem upd_in {H:Hp} {l:Addr} {o:HO} {c:Addr} {u:HO} (h:H c=some u) (n:c≠l):upd H l o c=some u:=by rw [upd_ne n];exact h
end Lw
namespace Lw
end Lw
namespace Lw
open PySem
end Lw
namespace Lw
open PySem L2
end Lw
namespace Lw
open PySem L2
def md (n:Int) (c:List Int):List Int:=c.map fun x=>x % n
theorem md_md (n:Int) (c:List Int):md n (md n c)=md n c:=by
  unfold md
  rw [List.map_map]
  refine List.map_congr_left fun x _=>?_
  exact Int.emod_emod_of_dvd x (Int.dvd_refl n)
theorem dot_md (n:Int):∀ c d:List Int,dot (md n c) d % n=dot c d % n
  | [],d=>rfl
  | x :: c,[]=>by unfold md;rw [dot_nil_r,dot_nil_r]
  | x :: c,y :: d=>by
    have ih:=dot_md n c d
    show dot (x % n :: md n c) (y :: d) % n=_
    rw [dot_cons,dot_cons,Int.add_emod,ih,Int.mul_emod,Int.emod_emod_of_dvd x (Int.dvd_refl n),← Int.mul_emod,← Int.add_emod]
theorem dot_congr {n:Int} {c c':List Int} (h:md n c=md n c') (d:List Int):dot c d % n=dot c' d % n:=by
  rw [← dot_md n c d,h,dot_md]
theorem stepC_congr {n:Int} {k:Nat} {c c':List Int} (S:List (List Int)) (h:md n c=md n c'):md n (stepC k S c)=md n (stepC k S c'):=by
  unfold md stepC
  rw [List.map_map,List.map_map]
  refine List.map_congr_left fun j _=>?_
  exact dot_congr h _
theorem cntN_add (k:Nat) (T:List (List Int)) (c:List Int) (x:Nat):∀ p,cntN k T (cntN k T c x) p=cntN k T c (x+p)
  | 0=>rfl
  | p+1=>by
    show stepC k T (cntN k T (cntN k T c x) p)=stepC k T (cntN k T c (x+p))
    rw [cntN_add k T c x p]
def mm (k:Nat) (n:Int) (A B:List (List Int)):List (List Int):=A.map fun r=>md n (stepC k B r)
structure Pw (k:Nat) (n:Int) (T S:List (List Int)) (p:Nat):Prop where
  len:S.length=k
  row:∀ r∈S,r.length=k
  is:∀ c:List Int,c.length=k→md n (stepC k S c)=md n (cntN k T c p)
theorem Pw.one {k:Nat} {n:Int} {T:List (List Int)} (h1:T.length=k) (h2:∀ r∈T,r.length=k):Pw k n T T 1:=⟨h1,h2,fun _ _=>rfl⟩
theorem Pw.led {k:Nat} {n:Int} {T S:List (List Int)} {p x:Nat} (h:Pw k n T S p) {r:List Int} (hr:r.length=k):md n (stepC k S (md n (cntN k T r x)))=md n (cntN k T r (x+p)):=by
  rw [stepC_congr S (md_md n (cntN k T r x)),h.is _ (cntN_len hr x),cntN_add]
end Lw
namespace Lw
open PySem L2
end Lw
namespace Lw
open PySem L2
def top (i:Nat):Stmt:=PySem.Challenge.pw_linegrow_k41_unwound.main.body.getD i (.Pass ⟨0,0,0,0⟩)
abbrev sWho:Stmt:=top 9
abbrev sWin:Stmt:=top 10
abbrev sNfa:Stmt:=top 11
abbrev sNnu:Stmt:=top 12
abbrev sPrs:Stmt:=top 14
abbrev sWli:Stmt:=top 17
abbrev sUnw:Stmt:=top 18
abbrev sShs:Stmt:=top 19
abbrev sFig:Stmt:=top 20
abbrev sOne:Stmt:=top 21
abbrev sTwi:Stmt:=top 22
abbrev sWhl:Stmt:=top 24
abbrev sPen:Stmt:=top 25
abbrev sTak:Stmt:=top 26
abbrev sSgn:Stmt:=top 27
abbrev sNum:Stmt:=top 28
abbrev sDue:Stmt:=top 29
abbrev sAsk:Stmt:=top 30
abbrev sNor:Stmt:=top 31
abbrev sPow:Stmt:=top 32
abbrev sGre:Stmt:=top 33
abbrev sRnd:Stmt:=top 34
abbrev sRef:Stmt:=top 35
abbrev sDrw:Stmt:=top 36
abbrev sLaw:Stmt:=top 37
end Lw
namespace Lw
open PySem L2
structure Gf (K:PySem.W.Frag) (mg:Str→Option Value) (x:Str) (f:Addr) (fd:FuncData) (ps:List Str):Prop where
  m:mg x=some (.ref f)
  k:PySem.W.keepIn K (.ref f)=true
  b:Binds K fd ps []
end Lw
namespace Lw
open PySem L2
structure PenAt (H:Hp) (p:Addr) (b:Nat):Prop where
  ex:∃ (a n f:Int),H p=some (.lst [.int a,.int n,.int f])∧0≤n∧n≤b∧0≤f∧f < 2147483647
theorem PenAt.mono {H:Hp} {p:Addr} {b b':Nat} (h:PenAt H p b) (hb:b≤b'):PenAt H p b':=by
  obtain ⟨a,n,f,e,h1,h2,h3⟩:=h.ex
  exact ⟨a,n,f,e,h1,by omega,h3⟩
def But (p:Addr) (H H':Hp):Prop:=∀ c o,H c=some o→c≠p→H' c=some o
theorem But.refl (p:Addr) (H:Hp):But p H H:=fun _ _ h _=>h
theorem But.trans {p:Addr} {H H1 H2:Hp} (a:But p H H1) (b:But p H1 H2):But p H H2:=fun c o h n=>b c o (a c o h n) n
theorem But.same {p:Addr} {H H':Hp} (s:Same H H'):But p H H':=fun c o h _=>s c o h
theorem But.free {p:Addr} {H H':Hp} (e:But p H H') {l:Addr} (n:l≠p) (h:H' l=none):H l=none:=by
  cases q:H l with
  | none=>rfl
  | some o=>rw [e l o q n] at h;cases h
section
variable {P:Program} {w:World} {K:PySem.W.Frag} {mg:Str→Option Value} {base:Heap}
def spTak:Sp:=fun vs H Q _=>∃ (p:Addr) (b:Nat) (size:Int),vs=[.ref p,.int size]∧PenAt H p b∧b≤1000000∧0 < size∧size≤10000000000000000000000000000000000000000000000000000000000000000000000∧∀ (v:Int) H',0≤v→v < size→PenAt H' p (b+1)→(∀ c,c≠p→H' c=H c)→Q (.int v) H'
theorem scTak:FnScope ["_law_pen_here","_law_size","_law_found","_law_number_here"] ["_law_pen_here","_law_size"] (defScope sTak):=⟨rfl,rfl,rfl,by decide +kernel,rfl,by decide +kernel,by decide +kernel⟩
theorem ok_tak {f:Addr} {fd:FuncData} (F:Fun K "_law_take" "_law_take" sTak f fd):FnOk P w K mg base CX0 1 f fd ["_law_pen_here","_law_size"] spTak:=by
  refine F.ok scTak (fun vs H Q E h=>?_) (fun cdv A outer s H vs Q E hr h=>?_)
  · obtain ⟨p,b,size,rfl,_⟩:=h
    rfl
  · obtain ⟨p,b,size,rfl,hp,hb,h1,h2,k⟩:=h
    obtain ⟨a,n,g,e,n1,n2,g1,g2⟩:=hp.ex
    refine ⟨_,pss_cons (ps_if (pt_cmpR op_gt (pe_ix ix_list (pv 0) pe_int (fun _ _=>rfl)) pe_int (nomark _))
        (pss_cons (ps_set (i:=2) scTak.nd rfl (Or.inl rfl) (pe_op op_mod (pe_ix ix_list (pv 0) pe_int (fun _ _=>rfl)) (pv 1)))
        (pss_cons (ps_asg (pe_op op_fdivB (pe_ix ix_list (pv 0) pe_int (fun _ _=>rfl)) (pv 1)) (pg_sub (pv 0) pe_int set_list))
        (pss_one (ps_ret (pv 2))))) pss_nil)
      (pss_cons (ps_asg (pe_op op_add (pe_ix ix_list (pv 0) pe_int (fun _ _=>rfl)) pe_int) (pg_sub (pv 0) pe_int set_list))
      (pss_cons (ps_set (i:=3) scTak.nd rfl (Or.inl rfl) (pe_op op_mod (pe_op op_pow (pe_op op_add (pe_ix ix_list (pv 0) pe_int (fun _ _=>rfl)) (pe_op op_mul pe_int (pe_ix ix_list (pv 0) pe_int (fun _ _=>rfl)))) pe_int) pe_int))
      (pss_cons (ps_set (i:=3) scTak.nd rfl (Or.inl rfl) (pe_op op_mod (pe_op op_pow (pe_op op_add (pv 3) (pe_op op_mul pe_int (pe_ix ix_list (pv 0) pe_int (fun _ _=>rfl)))) pe_int) pe_int))
      (pss_one (ps_ret (pe_op op_mod (pe_op op_fdiv (pv 3) pe_int) (pv 1))))))),?_⟩
    refine ⟨_,rfl,p,_,_,_,rfl,rfl,SqL.of e,atI_nat (j:=0) rfl,_,_,rfl,rfl,_,rfl,?_⟩
    refine ite2 (fun hc=>?_) (fun hc=>?_)
    · refine ⟨_,rfl,p,_,_,_,rfl,rfl,SqL.of e,atI_nat (j:=0) rfl,_,rfl,_,_,rfl,rfl,h1,?_⟩
      refine ⟨_,rfl,p,_,_,_,rfl,rfl,SqL.of e,atI_nat (j:=0) rfl,_,rfl,_,_,rfl,rfl,⟨h1,by omega⟩,?_⟩
      refine ⟨_,rfl,p,_,_,0,rfl,rfl,e,rfl,?_⟩
      refine ⟨_,rfl,?_⟩
      refine k _ _ (Int.emod_nonneg _ (by omega)) (Int.emod_lt_of_pos _ h1) ⟨_,n,g,upd_same,n1,by omega,g1,g2⟩ fun c hc=>upd_ne hc
    · refine ⟨_,rfl,p,_,_,_,rfl,rfl,SqL.of e,atI_nat (j:=1) rfl,_,_,rfl,rfl,_,rfl,p,_,_,1,rfl,rfl,e,rfl,?_⟩
      have e2:upd H p (.lst ([V.int a,V.int n,V.int g].set 1 (V.int (n+1)))) p=some (.lst [.int a,.int (n+1),.int g]):=upd_same
      refine ⟨_,rfl,p,_,_,_,rfl,rfl,SqL.of e2,atI_nat (j:=2) rfl,_,rfl,p,_,_,_,rfl,rfl,SqL.of e2,atI_nat (j:=1) rfl,_,_,rfl,rfl,.inl ⟨by decide,by decide⟩,_,_,rfl,rfl,_,_,rfl,rfl,⟨by decide,by decide,by omega⟩,_,_,rfl,rfl,(by show (0:Int) < 2147483647;decide),?_⟩
      generalize (g+7919 * (n+1)) ^ Int.toNat 5=X1
      refine ⟨_,rfl,_,rfl,p,_,_,_,rfl,rfl,SqL.of e2,atI_nat (j:=1) rfl,_,_,rfl,rfl,.inl ⟨by decide,by decide⟩,_,_,rfl,rfl,_,_,rfl,rfl,⟨by decide,by decide,by omega⟩,_,_,rfl,rfl,(by show (0:Int) < 2147483629;decide),?_⟩
      generalize (X1 % 2147483647+104729 * (n+1)) ^ Int.toNat 5=X2
      refine ⟨_,rfl,_,_,rfl,rfl,⟨by decide,by decide⟩,_,rfl,_,_,rfl,rfl,h1,?_⟩
      exact k _ _ (Int.emod_nonneg _ (by omega)) (Int.emod_lt_of_pos _ h1) ⟨a,n+1,g,e2,by omega,by omega,g1,g2⟩ fun c hc=>upd_ne hc
def spPen (K:PySem.W.Frag):Sp:=fun vs H Q _=>∃ (a:Addr) (ns:List Int) (k:Int),vs=[.ref a,.int k]∧SqL K H a (ns.map V.int)∧ns.length≤63∧0≤k∧k≤100∧∀ p H',Same H H'→H p=none→PenAt H' p 0→Q (.ref p) H'
end
end Lw
namespace Lw
open PySem L2
section
variable {P:Program} {w:World} {K:PySem.W.Frag} {mg:Str→Option Value} {base:Heap}
theorem mem_cutV {xs:List V} {lo hi:Option Int} {x:V} (h:x∈cutV xs lo hi):x∈xs:=List.mem_of_mem_drop (List.mem_of_mem_take h)
theorem scPen:FnScope ["_law_script","_law_k","_law_fold","_law_cell"] ["_law_script","_law_k"] (defScope sPen):=⟨rfl,rfl,rfl,by decide +kernel,rfl,by decide +kernel,by decide +kernel⟩
theorem ok_pen {f:Addr} {fd:FuncData} (F:Fun K "_law_pen" "_law_pen" sPen f fd) (hlen:mg "len" = none):FnOk P w K mg base CX0 1 f fd ["_law_script","_law_k"] (spPen K):=by
  refine F.ok scPen (fun vs H Q E h=>?_) (fun cdv A outer s H vs Q E hr h=>?_)
  · obtain ⟨a,ns,k,rfl,_⟩:=h
    rfl
  · obtain ⟨a,ns,k,rfl,hS,hl,k0,k1,q⟩:=h
    refine ⟨_,pss_cons (ps_set (i:=2) scPen.nd rfl (Or.inl rfl) (pe_op op_add (pe_op op_mul pe_int (pv 1)) pe_int))
      (pss_cons (ps_for PassesOwn.never rfl (pi_list (pe_slice sl_list (pv 0) po_none (po_some pe_int))) (pg_name (i:=3) scPen.nd rfl (Or.inl rfl))
        (pss_one (ps_set (i:=2) scPen.nd rfl (Or.inl rfl) (pe_op op_mod (pe_op op_add (pe_op op_mul (pv 2) pe_int) (pv 3)) pe_int))))
      (pss_cons (ps_if (PW.pt (pw_and (pt_cmpR op_gt (pe_callB call_len_seq (by rfl) hlen PySem.boot_len (pa_cons (pv 0) pa_nil)) pe_int (nomark _))
          (pw_and1 (pt_cmpR op_ge (pe_ix ix_list (pv 0) (pe_op op_mod (pv 1) (pe_callB call_len_seq (by rfl) hlen PySem.boot_len (pa_cons (pv 0) pa_nil))) (fun _ _=>rfl)) (pe_op op_pow pe_int pe_int) (nomark _)))))
        (pss_one (ps_ret (pe_lst (pa_cons (pe_op op_sub (pe_ix ix_list (pv 0) (pe_op op_mod (pv 1) (pe_callB call_len_seq (by rfl) hlen PySem.boot_len (pa_cons (pv 0) pa_nil))) (fun _ _=>rfl)) (pe_op op_pow pe_int pe_int)) (pa_cons pe_int (pa_cons (pv 2) pa_nil)))))) pss_nil)
      (pss_one (ps_ret (pe_lst (pa_cons pe_int (pa_cons pe_int (pa_cons (pv 2) pa_nil)))))))),?_⟩
    refine ⟨_,rfl,_,_,rfl,rfl,.inl ⟨by decide,by decide⟩,_,_,rfl,rfl,?_⟩
    refine ⟨_,rfl,_,rfl,a,_,rfl,hS,fun p hp=>⟨p,rfl,⟨_,SqL.of upd_same⟩,?_⟩⟩
    refine for_by (sure_list (xs:=cutV (ns.map V.int) none (some 63))) (fun i σ H2=>H2=upd H p (.lst (cutV (ns.map V.int) none (some 63)))∧∃ (g:Int) (v:Option V),σ=[some (.ref a),some (.int k),some (.int g),v]∧0≤g∧g < 2147483647)
      ⟨rfl,_,_,rfl,by omega,by omega⟩ ?_ ?_ ?_
    · rintro i σ H2 hi ⟨rfl,_⟩
      exact SqL.of upd_same
    · rintro i x σ H2 hx ⟨rfl,g,v,rfl,g1,g2⟩
      obtain ⟨z,hz,rfl⟩:=List.mem_map.mp (mem_cutV (List.mem_of_getElem? hx))
      refine ⟨_,rfl,_,_,rfl,rfl,.inr ⟨by decide,by decide⟩,_,rfl,_,_,rfl,rfl,_,_,rfl,rfl,(by show (0:Int) < 2147483647;decide),rfl,_,_,rfl,Int.emod_nonneg _ (by decide),Int.emod_lt_of_pos _ (by decide)⟩
    · rintro σ H2 ⟨rfl,g,v,rfl,g1,g2⟩
      have s1:Same H (upd H p (.lst (cutV (ns.map V.int) none (some 63)))):=Same.add hp
      have hS1:=s1.seq hS
      have el:((ns.map V.int).length:Int)=(ns.length:Int):=by rw [List.length_map]
      have fin:∀ (z:Int) (l:Addr),(upd H p (.lst (cutV (ns.map V.int) none (some 63)))) l=none→Q (.ref l) (upd (upd H p (.lst (cutV (ns.map V.int) none (some 63)))) l (.lst [.int z,.int 0,.int g])):=fun z l hn =>
        q l _ (s1.trans (Same.add hn)) (s1.free hn) ⟨z,0,g,upd_same,by decide,by decide,g1,g2⟩
      refine ⟨_,rfl,a,_,rfl,.inl hS1,_,_,rfl,rfl,_,rfl,?_⟩
      refine ite2 (fun hc=>?_) (fun hc=>?_)
      · have hpos:0 < (ns.length:Int):=by
          have:=of_decide_eq_true hc
          rw [el] at this
          exact this
        have hm1:=Int.emod_nonneg k (show (ns.length:Int)≠0 by omega)
        have hm2:=Int.emod_lt_of_pos k hpos
        obtain ⟨j,hj⟩:∃ j:Nat,k % (ns.length:Int)=(j:Int):=⟨(k % (ns.length:Int)).toNat,by omega⟩
        have hjl:j < ns.length:=by omega
        have hat:atI (ns.map V.int) (k % ((ns.map V.int).length:Int))=some (.int ns[j]):=by
          rw [el,hj]
          exact atI_nat (by rw [List.getElem?_map,List.getElem?_eq_getElem hjl];rfl)
        refine ⟨_,rfl,_,rfl,_,rfl,a,_,rfl,.inl hS1,_,_,rfl,rfl,(by show (0:Int) < _;rw [el];exact hpos),a,_,_,_,rfl,rfl,hS1,hat,_,_,rfl,rfl,⟨by decide,by decide,by decide⟩,_,_,rfl,rfl,_,rfl,?_⟩
        refine ite2 (fun hc2=>?_) (fun hc2=>?_)
        · refine ⟨_,rfl,_,rfl,_,rfl,a,_,rfl,.inl hS1,_,_,rfl,rfl,(by show (0:Int) < _;rw [el];exact hpos),a,_,_,_,rfl,rfl,hS1,hat,_,_,rfl,rfl,⟨by decide,by decide,by decide⟩,_,_,rfl,rfl,_,rfl,(by show 3≤sizeLine;decide),fun l hn=>?_⟩
          exact fin _ l hn
        · exact ⟨_,rfl,(by show 3≤sizeLine;decide),fun l hn=>fin 0 l hn⟩
      · refine iteF ?_
        exact ⟨_,rfl,(by show 3≤sizeLine;decide),fun l hn=>fin 0 l hn⟩
end
end Lw
namespace Lw
open PySem L2
def stp (cs w:List Int):List Int:=w.tail++[dot cs w]
def wn (cs ss:List Int):Nat→List Int
  | 0=>ss
  | k+1=>stp cs (wn cs ss k)
def xN (cs ss:List Int) (k:Nat):Int:=(wn cs ss k).headD 0
theorem stp_len {cs w:List Int} (h:w.length=cs.length) (h0:0 < cs.length):(stp cs w).length=cs.length:=by
  unfold stp
  rw [List.length_append,List.length_tail]
  show _+1=_
  omega
theorem wn_len {cs ss:List Int} (h:ss.length=cs.length) (h0:0 < cs.length):∀ k,(wn cs ss k).length=cs.length
  | 0=>h
  | k+1=>stp_len (wn_len h h0 k) h0
theorem wn_add (cs ss:List Int) (j:Nat):∀ k,wn cs (wn cs ss j) k=wn cs ss (j+k)
  | 0=>rfl
  | k+1=>by
    show stp cs (wn cs (wn cs ss j) k)=stp cs (wn cs ss (j+k))
    rw [wn_add cs ss j k]
theorem xN_add (cs ss:List Int) (j k:Nat):xN cs (wn cs ss j) k=xN cs ss (j+k):=by
  unfold xN
  rw [wn_add]
theorem wn_get {cs ss:List Int} (h:ss.length=cs.length) (h0:0 < cs.length):∀ (i k:Nat),i < cs.length→(wn cs ss k)[i]? = some (xN cs ss (k+i))
  | 0,k,_=>by
    have hl:=wn_len h h0 k
    show _=some ((wn cs ss k).headD 0)
    cases e:wn cs ss k with
    | nil=>rw [e] at hl;simp at hl;omega
    | cons a r=>rfl
  | i+1,k,hi=>by
    have ih:=wn_get h h0 i (k+1) (by omega)
    have e:k+1+i=k+(i+1):=by omega
    rw [e] at ih
    rw [← ih]
    show _=((wn cs ss k).tail++[dot cs (wn cs ss k)])[i]?
    have hl:=wn_len h h0 k
    rw [List.getElem?_append_left (by rw [List.length_tail];omega),List.getElem?_tail]
theorem xN_rec {cs ss:List Int} (h:ss.length=cs.length) (h0:0 < cs.length) (k:Nat):xN cs ss (k+cs.length)=dot cs (wn cs ss k):=by
  have h1:=wn_get h h0 (cs.length - 1) (k+1) (by omega)
  have e:k+1+(cs.length - 1)=k+cs.length:=by omega
  rw [e] at h1
  have hl:=wn_len h h0 k
  have h2:(stp cs (wn cs ss k))[cs.length - 1]? = some (dot cs (wn cs ss k)):=by
    unfold stp
    rw [List.getElem?_append_right (by rw [List.length_tail];omega),List.length_tail,hl,Nat.sub_self]
    rfl
  have h3:(wn cs ss (k+1))[cs.length - 1]? = some (dot cs (wn cs ss k)):=h2
  rw [h1] at h3
  exact Option.some.inj h3
theorem wn_eq {cs ss:List Int} (h:ss.length=cs.length) (h0:0 < cs.length) (k:Nat):wn cs ss k=(List.range cs.length).map fun i=>xN cs ss (k+i):=by
  refine List.ext_getElem? fun i=>?_
  by_cases hi:i < cs.length
  · rw [wn_get h h0 i k hi,List.getElem?_map,List.getElem?_range hi]
    rfl
  · rw [List.getElem?_eq_none (by rw [wn_len h h0];omega),List.getElem?_eq_none (by rw [List.length_map,List.length_range];omega)]
theorem xN_first {cs ss:List Int} (h:ss.length=cs.length) (h0:0 < cs.length) {i:Nat} (hi:i < cs.length):ss[i]? = some (xN cs ss i):=by
  have:=wn_get h h0 i 0 hi
  rw [Nat.zero_add] at this
  exact this
theorem xN_nil:∀ k,xN [] [] k=0
  | 0=>rfl
  | k+1=>by
    show ((wn [] [] k).tail++[dot [] (wn [] [] k)]).headD 0=0
    have:∀ j,(wn [] [] j).tail=[]:=fun j=>by
      induction j with
      | zero=>rfl
      | succ j ih=>show ((wn [] [] j).tail++[dot [] (wn [] [] j)]).tail=[];rw [ih];rfl
    rw [this]
    rfl
def mx (N l:Int) (a b:List Int):List Int:=List.zipWith (fun s f=>(s+l * f) % N) a b
theorem mx_dot (N l:Int):∀ (a b ss:List Int),a.length=ss.length→b.length=ss.length→N ∣ dot (mx N l a b) ss - (dot a ss+l * dot b ss)
  | [],[],_,_,_=>by
    show N ∣ dot [] _ - (dot [] _+l * dot [] _)
    rw [dot_nil_l]
    simp
  | x :: a,y :: b,[],h,_=>by simp at h
  | x :: a,[],z :: ss,_,h=>by simp at h
  | [],y :: b,z :: ss,h,_=>by simp at h
  | [],y :: b,[],_,h=>by simp at h
  | x :: a,[],[],h,_=>by simp at h
  | x :: a,y :: b,z :: ss,h1,h2=>by
    have ih:=mx_dot N l a b ss (by simpa using h1) (by simpa using h2)
    show N ∣ dot ((x+l * y) % N :: mx N l a b) (z :: ss) - _
    rw [dot_cons,dot_cons,dot_cons]
    have e:(x+l * y) % N * z+dot (mx N l a b) ss - (x * z+dot a ss+l * (y * z+dot b ss))=((x+l * y) % N - (x+l * y)) * z+(dot (mx N l a b) ss - (dot a ss+l * dot b ss)):=by
      rw [Int.sub_mul,Int.mul_add,Int.add_mul,Int.mul_assoc]
      omega
    rw [e]
    refine Int.dvd_add (Int.dvd_trans ?_ (Int.dvd_mul_right _ _)) ih
    have:=Int.emod_add_mul_ediv (x+l * y) N
    refine ⟨-((x+l * y) / N),?_⟩
    rw [Int.mul_neg]
    omega
theorem mx_len (N l:Int) (a b:List Int):(mx N l a b).length=min a.length b.length:=List.length_zipWith
theorem mx_in {N l:Int} (hN:0 < N):∀ {a b:List Int} {x:Int},x∈mx N l a b→0≤x∧x < N
  | [],_,x,h=>by simp [mx] at h
  | _ :: _,[],x,h=>by simp [mx] at h
  | u :: a,v :: b,x,h=>by
    rcases List.mem_cons.mp (show x∈(u+l * v) % N :: mx N l a b from h) with h | h
    · rw [h];exact ⟨Int.emod_nonneg _ (by omega),Int.emod_lt_of_pos _ hN⟩
    · exact mx_in hN h
def oneS (N:Int) (cs sh:List Int):List Int:=mx N (sh.getLastD 0) (0 :: sh.dropLast) cs
structure Rep (N:Int) (cs:List Int) (m:Nat) (sh:List Int):Prop where
  len:sh.length=cs.length
  dv:∀ ss:List Int,ss.length=cs.length→N ∣ dot sh ss - xN cs ss m
theorem dot_snoc:∀ (a b:List Int) (x y:Int),a.length=b.length→dot (a++[x]) (b++[y])=dot a b+x * y
  | [],[],x,y,_=>by show dot [x] [y]=dot [] []+x * y;rw [dot_cons];simp [dot_nil_l]
  | [],_ :: _,_,_,h=>by simp at h
  | _ :: _,[],_,_,h=>by simp at h
  | u :: a,v :: b,x,y,h=>by
    rw [List.cons_append,List.cons_append,dot_cons,dot_cons,dot_snoc a b x y (by simpa using h)]
    omega
theorem one_len {N:Int} {cs sh:List Int} (h:sh.length=cs.length) (h0:0 < cs.length):(oneS N cs sh).length=cs.length:=by
  unfold oneS
  rw [mx_len,List.length_cons,List.length_dropLast]
  omega
theorem one_rep {N:Int} {cs sh:List Int} {m:Nat} (h0:0 < cs.length) (h:Rep N cs m sh):Rep N cs (m+1) (oneS N cs sh):=by
  refine ⟨one_len h.len h0,fun ss hs=>?_⟩
  have h1:=mx_dot N (sh.getLastD 0) (0 :: sh.dropLast) cs ss (by rw [List.length_cons,List.length_dropLast,h.len];omega) hs.symm
  have h2:=h.dv (stp cs ss) (stp_len hs h0)
  have e1:xN cs (stp cs ss) m=xN cs ss (m+1):=by
    have:=xN_add cs ss 1 m
    rw [Nat.add_comm 1 m] at this
    exact this
  have hne:sh≠[]:=fun z=>by have:=h.len;rw [z] at this;simp at this;omega
  have e2:sh=sh.dropLast++[sh.getLastD 0]:=by
    have h8:=List.dropLast_concat_getLast hne
    have:sh.getLastD 0=sh.getLast hne:=by rw [List.getLastD_eq_getLast?,List.getLast?_eq_getLast hne];rfl
    rw [this]
    exact h8.symm
  have e3:dot sh (stp cs ss)=dot sh.dropLast ss.tail+sh.getLastD 0 * dot cs ss:=by
    unfold stp
    have h9:=dot_snoc sh.dropLast ss.tail (sh.getLastD 0) (dot cs ss) (by rw [List.length_dropLast,List.length_tail,h.len,hs])
    rw [← e2] at h9
    exact h9
  have e4:dot (0 :: sh.dropLast) ss=dot sh.dropLast ss.tail:=by
    cases ss with
    | nil=>simp at hs;omega
    | cons a r=>rw [dot_cons,Int.zero_mul,Int.zero_add];rfl
  rw [e1,e3] at h2
  rw [e4] at h1
  have e5:dot (oneS N cs sh) ss - xN cs ss (m+1)=(dot (oneS N cs sh) ss - (dot sh.dropLast ss.tail+sh.getLastD 0 * dot cs ss))+(dot sh.dropLast ss.tail+sh.getLastD 0 * dot cs ss - xN cs ss (m+1)):=by omega
  rw [e5]
  exact Int.dvd_add h1 h2
def twS (N:Int) (cs:List Int):List Int→List Int × List Int→List Int × List Int
  | [],p=>p
  | m :: r,p=>twS N cs r (mx N m p.1 p.2,oneS N cs p.2)
theorem twS_snoc (N:Int) (cs:List Int):∀ (r:List Int) (m:Int) (p:List Int × List Int),twS N cs (r++[m]) p=(mx N m (twS N cs r p).1 (twS N cs r p).2,oneS N cs (twS N cs r p).2)
  | [],m,p=>rfl
  | x :: r,m,p=>twS_snoc N cs r m _
theorem tw_dot {N:Int} {cs ss:List Int} (h0:0 < cs.length) (hs:ss.length=cs.length):∀ (r:List Int) (j:Nat) (p:List Int × List Int),p.1.length=cs.length→Rep N cs j p.2 →
    (twS N cs r p).1.length=cs.length∧Rep N cs (j+r.length) (twS N cs r p).2∧N ∣ dot (twS N cs r p).1 ss - (dot p.1 ss+dot r ((List.range r.length).map fun i=>xN cs ss (j+i)))
  | [],j,p,h1,h2=>⟨h1,h2,by show N ∣ dot p.1 ss - (dot p.1 ss+dot [] _);rw [dot_nil_l,Int.add_zero,Int.sub_self];exact Int.dvd_zero _⟩
  | m :: r,j,p,h1,h2=>by
    have hl:(mx N m p.1 p.2).length=cs.length:=by rw [mx_len,h1,h2.len];omega
    obtain ⟨i1,i2,i3⟩:=tw_dot h0 hs r (j+1) (mx N m p.1 p.2,oneS N cs p.2) hl (one_rep h0 h2)
    refine ⟨i1,by rw [List.length_cons,show j+(r.length+1)=j+1+r.length by omega];exact i2,?_⟩
    show N ∣ dot (twS N cs r (mx N m p.1 p.2,oneS N cs p.2)).1 ss - _
    have hm:=mx_dot N m p.1 p.2 ss (by omega) (by rw [h2.len];omega)
    have hd:=h2.dv ss hs
    rw [List.length_cons,List.range_succ_eq_map,List.map_cons,List.map_map,dot_cons,Nat.add_zero]
    have e1:((List.range r.length).map ((fun i=>xN cs ss (j+i)) ∘ Nat.succ))=(List.range r.length).map fun i=>xN cs ss (j+1+i):=List.map_congr_left fun i _=>by
      show xN cs ss (j+(i+1))=_
      congr 1
      omega
    rw [e1]
    have e2:∀ A B C D X:Int,A - (B+(m * X+C))=(A - (D+C))+(D - (B+m * dot p.2 ss))+m * (dot p.2 ss - X):=fun A B C D X=>by rw [Int.mul_sub];omega
    rw [e2 _ _ _ (dot (mx N m p.1 p.2) ss)]
    exact Int.dvd_add (Int.dvd_add i3 hm) (Int.dvd_trans hd (Int.dvd_mul_left _ _))
theorem dot_zeros:∀ (n:Nat) (ss:List Int),dot (List.replicate n 0) ss=0
  | 0,_=>rfl
  | n+1,[]=>dot_nil_r _
  | n+1,a :: r=>by rw [List.replicate_succ,dot_cons,dot_zeros n r];simp
def twi (N:Int) (cs sh:List Int):List Int:=(twS N cs sh (List.replicate sh.length 0,sh)).1
theorem twi_rep {N:Int} {cs sh:List Int} {m:Nat} (h0:0 < cs.length) (h:Rep N cs m sh):Rep N cs (m+m) (twi N cs sh):=by
  have h1:∀ ss:List Int,ss.length=cs.length→_:=fun ss hs=>tw_dot (ss:=ss) h0 hs sh m (List.replicate sh.length 0,sh) (by rw [List.length_replicate];exact h.len) h
  refine ⟨(h1 cs rfl).1,fun ss hs=>?_⟩
  have h2:=(h1 ss hs).2.2
  rw [dot_zeros,Int.zero_add,h.len,← wn_eq hs h0 m] at h2
  have h3:=h.dv (wn cs ss m) (wn_len hs h0 m)
  rw [xN_add] at h3
  have h2:N ∣ dot (twi N cs sh) ss - dot sh (wn cs ss m):=by unfold twi;rw [h.len];exact h2
  have e:dot (twi N cs sh) ss - xN cs ss (m+m)=(dot (twi N cs sh) ss - dot sh (wn cs ss m))+(dot sh (wn cs ss m) - xN cs ss (m+m)):=by omega
  rw [e]
  exact Int.dvd_add h2 h3
def bitsV (m:Nat) (ds:List Nat):Nat:=ds.foldl (fun m d=>2 * m+d) m
def shSt (N:Int) (cs:List Int) (sh:List Int) (d:Nat):List Int:=if d=1 then oneS N cs (twi N cs sh) else twi N cs sh
theorem st_rep {N:Int} {cs sh:List Int} {m d:Nat} (h0:0 < cs.length) (hd:d < 2) (h:Rep N cs m sh):Rep N cs (2 * m+d) (shSt N cs sh d):=by
  have h2:=twi_rep h0 h
  unfold shSt
  split
  · rename_i e
    subst e
    have:=one_rep h0 h2
    rw [show 2 * m+1=m+m+1 by omega]
    exact this
  · rename_i e
    rw [show 2 * m+d=m+m by omega]
    exact h2
theorem first_rep {N:Int} {cs:List Int} (h0:0 < cs.length):Rep N cs 0 (1 :: List.replicate (cs.length - 1) 0):=by
  refine ⟨by rw [List.length_cons,List.length_replicate];omega,fun ss hs=>?_⟩
  cases ss with
  | nil=>simp at hs;omega
  | cons a r =>
    rw [dot_cons,dot_zeros]
    show N ∣ 1 * a+0 - a
    rw [Int.one_mul,Int.add_zero,Int.sub_self]
    exact Int.dvd_zero _
theorem rep_val {N:Int} {cs ss sh:List Int} {m:Nat} (hs:ss.length=cs.length) (h:Rep N cs m sh):dot sh ss % N=xN cs ss m % N:=Int.emod_eq_emod_iff_emod_sub_eq_zero.mpr (Int.emod_eq_zero_of_dvd (h.dv ss hs))
end Lw
namespace Lw
open PySem L2 PyProof.Rows
abbrev bmV:List Value:=[.type "ValueError",.type "Exception",.type "BaseException",.type "object"]
structure ClsK (K:PySem.W.Frag) (C:Addr):Prop where
  cls:(PySem.W.clsIn K C).isSome=true
  nt:PySem.W.instIn K (.ref C) (.type "tuple")=some false
  bexc:PySem.W.mroIn K C (.type "BaseException")=some true
  ty:PySem.W.typeIn K (.ref C)=some (.type "type")
theorem szl {n:Nat} (h:n≤1000):n≤sizeLine:=Nat.le_trans h (by decide)
theorem ten60:(10:Int) ^ Int.toNat 60=1000000000000000000000000000000000000000000000000000000000000:=by decide +kernel
theorem ten30:(10:Int) ^ Int.toNat 30=1000000000000000000000000000000:=by decide +kernel
theorem tyKeep {K:PySem.W.Frag} {H H':Hp} {z:V} {t:String} (h:TyOf K H z (.type t)) (k:∀ a o,z=.ref a→H a=some o→H' a=some o):TyOf K H' z (.type t):=by
  cases h with
  | non=>exact .non
  | bl x=>exact .bl x
  | int i=>exact .int i
  | str x=>exact .str x
  | flt x=>exact .flt x
  | lst e=>exact .lst (k _ _ rfl e)
  | frz e=>exact .frz (k _ _ rfl e)
  | tup e=>exact .tup (k _ _ rfl e)
  | dK e=>exact .dK (k _ _ rfl e)
  | dT e=>exact .dT (k _ _ rfl e)
def OddV (K:PySem.W.Frag) (H:Hp) (z:V):Prop:=∃ t,TyOf K H z (.type t)∧(t = "bool"∨t = "NoneType"∨t = "str"∨t = "list"∨t = "tuple")
theorem OddV.keep {K:PySem.W.Frag} {H H':Hp} {z:V} (h:OddV K H z) (k:∀ a o,z=.ref a→H a=some o→H' a=some o):OddV K H' z:=by
  obtain ⟨t,h,ht⟩:=h
  exact ⟨t,tyKeep h k,ht⟩
def FarOk (z:V):Prop:=∃ n:Nat,z=.int (n:Int)∧n < 1000000000000000000000000000000000000000000000000000000000000
def FarBad (K:PySem.W.Frag) (H:Hp) (z:V):Prop:=OddV K H z∨∃ n:Int,z=.int n∧(n < 0∨1000000000000000000000000000000000000000000000000000000000000≤n)
def NumOk (z:V):Prop:=∃ n:Int,z=.int n∧0 < n∧n < 1000000000000000000000000000000
def NumBad (K:PySem.W.Frag) (H:Hp) (z:V):Prop:=OddV K H z∨∃ n:Int,z=.int n∧(n < 1∨1000000000000000000000000000000≤n)
theorem FarBad.keep {K:PySem.W.Frag} {H H':Hp} {z:V} (h:FarBad K H z) (k:∀ a o,z=.ref a→H a=some o→H' a=some o):FarBad K H' z:=by
  rcases h with h | h
  · exact .inl (h.keep k)
  · exact .inr h
theorem NumBad.keep {K:PySem.W.Frag} {H H':Hp} {z:V} (h:NumBad K H z) (k:∀ a o,z=.ref a→H a=some o→H' a=some o):NumBad K H' z:=by
  rcases h with h | h
  · exact .inl (h.keep k)
  · exact .inr h
def LiOk (H:Hp) (z:V) (ns:List Int):Prop:=∃ a,z=.ref a∧H a=some (.lst (ns.map V.int))∧ns.length≤16
def NoLst (K:PySem.W.Frag) (H:Hp) (z:V):Prop:=∃ t,TyOf K H z (.type t)∧(t = "NoneType"∨t = "int"∨t = "str"∨t = "tuple"∨t = "dict")
def Elm (K:PySem.W.Frag) (H:Hp) (v:V):Bool→Prop
  | true=>∃ n:Int,v=.int n
  | false=>OddV K H v
def LiBad (K:PySem.W.Frag) (H:Hp) (z:V):Prop:=NoLst K H z∨∃ a vs,z=.ref a∧H a=some (.lst vs)∧vs.length≤1000∧(16 < vs.length∨∃ bs:List Bool,bs.length=vs.length∧(∀ (i:Nat) v b,vs[i]? = some v→bs[i]? = some b→Elm K H v b)∧false∈bs)
theorem Elm.keep {K:PySem.W.Frag} {H H':Hp} {v:V} {b:Bool} (h:Elm K H v b) (s:Same H H'):Elm K H' v b:=by
  cases b with
  | true=>exact h
  | false=>exact OddV.keep h fun a o _ e=>s _ _ e
theorem LiBad.keep {K:PySem.W.Frag} {H H':Hp} {z:V} (h:LiBad K H z) (s:Same H H'):LiBad K H' z:=by
  rcases h with ⟨t,h,ht⟩ | ⟨a,vs,e,h1,h2,h3⟩
  · exact .inl ⟨t,tyKeep h fun a o _ e=>s _ _ e,ht⟩
  · refine .inr ⟨a,vs,e,s _ _ h1,h2,?_⟩
    rcases h3 with h3 | ⟨bs,c1,c2,c3⟩
    · exact .inl h3
    · exact .inr ⟨bs,c1,fun i v b x y=>(c2 i v b x y).keep s,c3⟩
theorem LiOk.keep {H H':Hp} {z:V} {ns:List Int} (h:LiOk H z ns) (s:Same H H'):LiOk H' z ns:=by
  obtain ⟨a,e,h1,h2⟩:=h
  exact ⟨a,e,s _ _ h1,h2⟩
section
variable {P:Program} {w:World} {K:PySem.W.Frag} {mg:Str→Option Value} {base:Heap} {cNoAge cNoNumber:Addr}
def spWho (K:PySem.W.Frag):Sp:=fun vs H Q _=>∃ z:V,vs=[z]∧((∃ n:Int,z=.int n∧Q (.bl true) H)∨(OddV K H z∧Q (.bl false) H))
theorem scWho:FnScope ["thing"] ["thing"] (defScope sWho):=⟨rfl,rfl,rfl,by decide +kernel,rfl,by decide +kernel,by decide +kernel⟩
theorem ok_who {f:Addr} {fd:FuncData} (F:Fun K "is_whole" "is_whole" sWho f fd)
    (hint:mg "int" = none)
    (hisinstance:mg "isinstance" = none)
    (hbool:mg "bool" = none)
    : FnOk P w K mg base CX0 1 f fd ["thing"] (spWho K):=by
  refine F.ok scWho (fun vs H Q E h=>?_) (fun cdv A outer s H vs Q E hr h=>?_)
  · obtain ⟨z,rfl,_⟩:=h
    rfl
  · obtain ⟨z,rfl,k⟩:=h
    refine ⟨_,(pss_one (ps_ret (pe_and (pe_callB (call_isinstK K) (by rfl) hisinstance (show bootBuiltins "isinstance" = some (.builtin "isinstance") by decide +kernel) (pa_cons (pv 0) (pa_cons (pe_bltn (v:=.ty "int") (by rfl) hint (show bootBuiltins "int" = some (.type "int") by decide +kernel) rfl) pa_nil))) (pe_one (pe_not (pe_callB (call_isinstK K) (by rfl) hisinstance (show bootBuiltins "isinstance" = some (.builtin "isinstance") by decide +kernel) (pa_cons (pv 0) (pa_cons (pe_bltn (v:=.ty "bool") (by rfl) hbool (show bootBuiltins "bool" = some (.type "bool") by decide +kernel) rfl) pa_nil)))))))),?_⟩
    rcases k with ⟨n,rfl,k⟩ | ⟨⟨t,ty,ht⟩,k⟩
    · refine ⟨_,rfl,_,_,_,true,rfl,TyOf.int n,(by rfl),_,rfl,iteT ?_⟩
      exact ⟨_,rfl,_,_,_,false,rfl,TyOf.int n,(by rfl),_,rfl,k⟩
    · rcases ht with rfl | rfl | rfl | rfl | rfl
      · refine ⟨_,rfl,_,_,_,true,rfl,ty,(by rfl),_,rfl,iteT ?_⟩
        exact ⟨_,rfl,_,_,_,true,rfl,ty,(by rfl),_,rfl,k⟩
      · exact ⟨_,rfl,_,_,_,false,rfl,ty,(by rfl),_,rfl,iteF k⟩
      · exact ⟨_,rfl,_,_,_,false,rfl,ty,(by rfl),_,rfl,iteF k⟩
      · exact ⟨_,rfl,_,_,_,false,rfl,ty,(by rfl),_,rfl,iteF k⟩
      · exact ⟨_,rfl,_,_,_,false,rfl,ty,(by rfl),_,rfl,iteF k⟩
def spWin (K:PySem.W.Frag):Sp:=fun vs H Q _=>∃ (z:V) (a b:Int),vs=[z,.int a,.int b]∧((∃ n:Int,z=.int n∧Q (.bl (decide (a≤n) && decide (n≤b))) H)∨(OddV K H z∧Q (.bl false) H))
theorem scWin:FnScope ["thing","least","most"] ["thing","least","most"] (defScope sWin):=⟨rfl,rfl,rfl,by decide +kernel,rfl,by decide +kernel,by decide +kernel⟩
theorem ok_win {f fWho:Addr} {fd fdWho:FuncData} (F:Fun K "is_within" "is_within" sWin f fd)
    (GWho:FnOk P w K mg base CX0 1 fWho fdWho ["thing"] (spWho K))
    (gWho:Gf K mg "is_whole" fWho fdWho ["thing"])
    : FnOk P w K mg base CX0 2 f fd ["thing","least","most"] (spWin K):=by
  refine F.ok scWin (fun vs H Q E h=>?_) (fun cdv A outer s H vs Q E hr h=>?_)
  · obtain ⟨z,a,b,rfl,_⟩:=h
    rfl
  · obtain ⟨z,a,b,rfl,k⟩:=h
    refine ⟨_,(pss_one (ps_ret (pe_and (pe_call GWho hr rfl gWho.m gWho.k gWho.b .nil pass0 (pa_cons (pv 0) pa_nil)) (pe_one (pe_chain op_le op_le (pv 1) (pv 0) (pv 2)))))),?_⟩
    rcases k with ⟨n,rfl,k⟩ | ⟨hz,k⟩
    · refine ⟨_,rfl,_,rfl,.inl ⟨n,rfl,_,rfl,iteT ?_⟩⟩
      refine ⟨_,rfl,_,rfl,_,_,rfl,rfl,_,rfl,?_⟩
      cases ha:decide (a≤n) with
      | false =>
        rw [ha] at k
        exact iteF k
      | true =>
        rw [ha] at k
        exact iteT ⟨_,rfl,_,_,rfl,rfl,k⟩
    · exact ⟨_,rfl,_,rfl,.inr ⟨hz,_,rfl,iteF k⟩⟩
def spWli (K:PySem.W.Frag):Sp:=fun vs H Q _=>∃ z:V,vs=[z]∧((∃ ns,LiOk H z ns∧∀ H',Same H H'→Q (.bl true) H')∨(LiBad K H z∧∀ H',Same H H'→Q (.bl false) H'))
theorem scWli:FnScope ["thing"] ["thing"] (defScope sWli):=⟨rfl,rfl,rfl,by decide +kernel,rfl,by decide +kernel,by decide +kernel⟩
theorem nd_wli1:(["number"]:List Str).Nodup:=by decide +kernel
theorem ok_wli {f fWho:Addr} {fd fdWho:FuncData} (F:Fun K "is_whole_list" "is_whole_list" sWli f fd)
    (GWho:FnOk P w K mg base CX0 1 fWho fdWho ["thing"] (spWho K))
    (gWho:Gf K mg "is_whole" fWho fdWho ["thing"])
    (hlen:mg "len" = none)
    (hlist:mg "list" = none)
    (hisinstance:mg "isinstance" = none)
    (hall:mg "all" = none)
    {tkLONGEST_TIE:Tok} (hLONGEST_TIE:mg "LONGEST_TIE" = some (.int 16 tkLONGEST_TIE))
    : FnOk P w K mg base CX0 2 f fd ["thing"] (spWli K):=by
  refine F.ok scWli (fun vs H Q E h=>?_) (fun cdv A outer s H vs Q E hr h=>?_)
  · obtain ⟨z,rfl,_⟩:=h
    rfl
  · obtain ⟨z,rfl,k⟩:=h
    refine ⟨_,(pss_one (ps_ret (pe_and (pe_callB (call_isinstK K) (by rfl) hisinstance (show bootBuiltins "isinstance" = some (.builtin "isinstance") by decide +kernel) (pa_cons (pv 0) (pa_cons (pe_bltn (v:=.ty "list") (by rfl) hlist (show bootBuiltins "list" = some (.type "list") by decide +kernel) rfl) pa_nil))) (pe_and (pe_cmpR op_le (pe_callB (call_lenK K) (by rfl) hlen PySem.boot_len (pa_cons (pv 0) pa_nil)) (pe_glob (v:=.int 16) (by rfl) hLONGEST_TIE ⟨_,rfl⟩) (nomark _)) (pe_one (pe_callB (call_all_boolsK K rfl) (by rfl) hall (show bootBuiltins "all" = some (.builtin "all") by decide +kernel) (pa_cons (pe_comp (N':=["number"]) (ix:=[none]) rfl rfl (pi_listK K (pv 0)) (fun _ _ _ _ _ _=>(pg_name (i:=0) nd_wli1 rfl (Or.inl rfl))) (fun _ _ _ _ _ _=>pts_nil) (fun _ _ _ _ _ _=>(pe_call GWho hr rfl gWho.m gWho.k gWho.b .nil pass0 (pa_cons (pv 0) pa_nil)))) pa_nil))))))),?_⟩
    have hcase:(NoLst K H z∧Q (.bl false) H)∨(∃ (a:Addr) (vs:List V),z=.ref a∧H a=some (.lst vs)∧16 < vs.length∧Q (.bl false) H)∨∃ (a:Addr) (vs:List V) (bs:List Bool),z=.ref a∧H a=some (.lst vs)∧vs.length≤16∧bs.length=vs.length∧(∀ (i:Nat) v b,vs[i]? = some v→bs[i]? = some b→Elm K H v b)∧∀ H',Same H H'→Q (.bl (bs.all id)) H':=by
      rcases k with ⟨ns,⟨a,rfl,h1,h2⟩,k⟩ | ⟨hz | ⟨a,vs,rfl,h1,h2,h3⟩,k⟩
      · refine .inr (.inr ⟨a,ns.map V.int,List.replicate ns.length true,rfl,h1,by rw [List.length_map];exact h2,by rw [List.length_replicate,List.length_map],fun i v b x y=>?_,fun H' s'=>?_⟩)
        · rw [(List.mem_replicate.mp (List.mem_of_getElem? y)).2]
          obtain ⟨n,_,rfl⟩:=List.mem_map.mp (List.mem_of_getElem? x)
          exact ⟨n,rfl⟩
        · rw [List.all_eq_true.mpr fun b hb=>by rw [(List.mem_replicate.mp hb).2];rfl]
          exact k H' s'
      · exact .inl ⟨hz,k H (Same.refl _)⟩
      · by_cases h16:vs.length≤16
        · rcases h3 with h3 | ⟨bs,c1,c2,c3⟩
          · omega
          · refine .inr (.inr ⟨a,vs,bs,rfl,h1,h16,c1,c2,fun H' s'=>?_⟩)
            rw [List.all_eq_false.mpr ⟨_,c3,by decide⟩]
            exact k H' s'
        · exact .inr (.inl ⟨a,vs,rfl,h1,by omega,k H (Same.refl _)⟩)
    rcases hcase with ⟨⟨t,ty,ht⟩,k⟩ | ⟨a,vs,rfl,h1,h2,k⟩ | ⟨a,vs,bs,rfl,h1,h2,h3,h4,k⟩
    · rcases ht with rfl | rfl | rfl | rfl | rfl <;> exact ⟨_,rfl,_,_,_,false,rfl,ty,(by rfl),_,rfl,iteF k⟩
    · refine ⟨_,rfl,_,_,_,true,rfl,TyOf.lst h1,(by rfl),_,rfl,iteT ?_⟩
      refine ⟨_,rfl,a,vs,rfl,.inl (SqL.of h1),_,_,rfl,rfl,_,rfl,?_⟩
      rw [decide_eq_false (show ¬ ((vs.length:Nat):Int)≤16 by omega)]
      exact iteF k
    · refine ⟨_,rfl,_,_,_,true,rfl,TyOf.lst h1,(by rfl),_,rfl,iteT ?_⟩
      refine ⟨_,rfl,a,vs,rfl,.inl (SqL.of h1),_,_,rfl,rfl,_,rfl,?_⟩
      rw [decide_eq_true (show ((vs.length:Nat):Int)≤16 by omega)]
      refine iteT ⟨_,rfl,a,rfl,⟨_,SqL.of h1⟩,?_⟩
      refine comp_allR (τ0:=[none]) (sure_list (xs:=vs)) (by omega) (fun i ys τ H2=>Same H H2∧(∃ v,τ=[v])∧ys=(bs.take i).map V.bl) ⟨Same.refl _,⟨_,rfl⟩,rfl⟩ ?_ ?_ ?_
      · rintro i ys τ H2 hi ⟨s2,_,rfl⟩
        refine ⟨SqL.of (s2 _ _ h1),?_⟩
        rw [List.length_map,List.length_take]
        omega
      · rintro i y ys τ H2 hy ⟨s2,⟨v,rfl⟩,rfl⟩
        have hi:i < bs.length:=by
          have:=(List.getElem?_eq_some_iff.mp hy).1
          omega
        have eb:=List.getElem?_eq_getElem hi
        have he:=(h4 i y _ hy eb).keep s2
        have fin:(bs.take i).map V.bl++[V.bl bs[i]]=(bs.take (i+1)).map V.bl:=by rw [List.take_add_one,eb,List.map_append];rfl
        refine ⟨_,rfl,y,rfl,?_⟩
        generalize bs[i]=b at he fin
        cases b with
        | true =>
          obtain ⟨n,hn⟩:=he
          exact .inl ⟨n,hn,s2,⟨_,rfl⟩,fin⟩
        | false=>exact .inr ⟨he,s2,⟨_,rfl⟩,fin⟩
      · rintro ys τ H2 D ⟨s2,_,rfl⟩ hD
        rw [← h3,List.take_length]
        exact ⟨D,_,rfl,SqL.of upd_same,k _ (s2.trans (Same.add hD))⟩
def spNfaX (K:PySem.W.Frag) (cA:Addr):Sp:=fun vs H Q E=>∃ z:V,vs=[z]∧((FarOk z∧Q .non H)∨(FarBad K H z∧E (.ref cA) none H))
theorem scNfa:FnScope ["age"] ["age"] (defScope sNfa):=⟨rfl,rfl,rfl,by decide +kernel,rfl,by decide +kernel,by decide +kernel⟩
theorem ok_nfax {f fWin:Addr} {fd fdWin:FuncData} (F:Fun K "need_far_age" "need_far_age" sNfa f fd)
    (GWin:FnOk P w K mg base CX0 2 fWin fdWin ["thing","least","most"] (spWin K))
    (gWin:Gf K mg "is_within" fWin fdWin ["thing","least","most"])
    {cNoAge:Addr} (oNoAge:OwnCls "NoAge" cNoAge bmV "ValueError.__new__" mg base)
    : FnOk P w K mg base (CX1 P w) 3 f fd ["age"] (spNfaX K cNoAge):=by
  refine F.ok1 scNfa (fun vs H Q E h=>?_) (fun cdv A outer s H vs Q E hr h=>?_)
  · obtain ⟨z,rfl,_⟩:=h
    rfl
  · obtain ⟨z,rfl,k⟩:=h
    refine ⟨_,(pss_one (ps_if (pt_not (pt_val (pe_call GWin hr rfl gWin.m gWin.k gWin.b .nil pass0 (pa_cons (pv 0) (pa_cons pe_int (pa_cons (pe_op op_sub (pe_op op_pow pe_int pe_int) pe_int) pa_nil)))))) (pss_one (ps_raise oNoAge PySem.F.excBase_ValueError rfl (pa_cons pe_str pa_nil))) pss_nil)),?_⟩
    refine ⟨_,rfl,_,_,rfl,rfl,⟨by decide,by decide,by decide⟩,_,_,rfl,rfl,z,0,_,rfl,?_⟩
    rcases k with ⟨⟨n,rfl,hn⟩,k⟩ | ⟨hz | ⟨n,rfl,hn⟩,k⟩
    · refine .inl ⟨_,rfl,_,rfl,?_⟩
      rw [decide_eq_true (show (0:Int)≤(n:Int) by omega),decide_eq_true (show (n:Int)≤(10:Int) ^ Int.toNat 60 - 1 by rw [ten60];omega)]
      exact iteF k
    · exact .inr ⟨hz,_,rfl,iteT ⟨by decide,k⟩⟩
    · refine .inl ⟨_,rfl,_,rfl,?_⟩
      have:(decide ((0:Int)≤n) && decide (n≤(10:Int) ^ Int.toNat 60 - 1))=false:=by
        rcases hn with hn | hn
        · rw [decide_eq_false (show ¬ (0:Int)≤n by omega)];rfl
        · rw [decide_eq_false (show ¬ n≤(10:Int) ^ Int.toNat 60 - 1 by rw [ten60];omega),Bool.and_false]
      rw [this]
      exact iteT ⟨by decide,k⟩
def spNnuX (K:PySem.W.Frag) (cN:Addr):Sp:=fun vs H Q E=>∃ z:V,vs=[z]∧((NumOk z∧Q .non H)∨(NumBad K H z∧E (.ref cN) none H))
theorem scNnu:FnScope ["number"] ["number"] (defScope sNnu):=⟨rfl,rfl,rfl,by decide +kernel,rfl,by decide +kernel,by decide +kernel⟩
theorem ok_nnux {f fWin:Addr} {fd fdWin:FuncData} (F:Fun K "need_number" "need_number" sNnu f fd)
    (GWin:FnOk P w K mg base CX0 2 fWin fdWin ["thing","least","most"] (spWin K))
    (gWin:Gf K mg "is_within" fWin fdWin ["thing","least","most"])
    {cNoNumber:Addr} (oNoNumber:OwnCls "NoNumber" cNoNumber bmV "ValueError.__new__" mg base)
    : FnOk P w K mg base (CX1 P w) 3 f fd ["number"] (spNnuX K cNoNumber):=by
  refine F.ok1 scNnu (fun vs H Q E h=>?_) (fun cdv A outer s H vs Q E hr h=>?_)
  · obtain ⟨z,rfl,_⟩:=h
    rfl
  · obtain ⟨z,rfl,k⟩:=h
    refine ⟨_,(pss_one (ps_if (pt_not (pt_val (pe_call GWin hr rfl gWin.m gWin.k gWin.b .nil pass0 (pa_cons (pv 0) (pa_cons pe_int (pa_cons (pe_op op_sub (pe_op op_pow pe_int pe_int) pe_int) pa_nil)))))) (pss_one (ps_raise oNoNumber PySem.F.excBase_ValueError rfl (pa_cons pe_str pa_nil))) pss_nil)),?_⟩
    refine ⟨_,rfl,_,_,rfl,rfl,⟨by decide,by decide,by decide⟩,_,_,rfl,rfl,z,1,_,rfl,?_⟩
    rcases k with ⟨⟨n,rfl,h0,hn⟩,k⟩ | ⟨hz | ⟨n,rfl,hn⟩,k⟩
    · refine .inl ⟨_,rfl,_,rfl,?_⟩
      rw [decide_eq_true (show (1:Int)≤n by omega),decide_eq_true (show n≤(10:Int) ^ Int.toNat 30 - 1 by rw [ten30];omega)]
      exact iteF k
    · exact .inr ⟨hz,_,rfl,iteT ⟨by decide,k⟩⟩
    · refine .inl ⟨_,rfl,_,rfl,?_⟩
      have:(decide ((1:Int)≤n) && decide (n≤(10:Int) ^ Int.toNat 30 - 1))=false:=by
        rcases hn with hn | hn
        · rw [decide_eq_false (show ¬ (1:Int)≤n by omega)];rfl
        · rw [decide_eq_false (show ¬ n≤(10:Int) ^ Int.toNat 30 - 1 by rw [ten30];omega),Bool.and_false]
      rw [this]
      exact iteT ⟨by decide,k⟩
end
end Lw
namespace Lw
open PySem L2 PyProof.Rows
theorem bits20 {x:Int} {e:Nat} (h:x.natAbs < 2 ^ e) (he:e≤100000):Builtin.Int.intBits x≤2 ^ 20:=Nat.le_trans (bits_abs h) (Nat.le_trans he (by decide))
theorem Bz.mono {e e':Nat} {c:List Int} (h:Bz e c) (he:e≤e'):Bz e' c:=fun x hx=>Nat.lt_of_lt_of_le (h x hx) (Nat.pow_le_pow_right (by decide) he)
theorem mx_bz {N l:Int} (h0:0 < N) (hN:N < 1000000000000000000000000000000) (a b:List Int):Bz 100 (mx N l a b):=fun x hx=>by
  have:=mx_in h0 hx
  have h1:(1000000000000000000000000000000:Nat) < 2 ^ 100:=by decide +kernel
  omega
theorem mx_snoc {N l:Int} {a b:List Int} {i:Nat} {x y:Int} (h1:a[i]? = some x) (h2:b[i]? = some y):(mx N l a b).take (i+1)=(mx N l a b).take i++[(x+l * y) % N]:=by
  have e:(mx N l a b)[i]? = some ((x+l * y) % N):=by unfold mx;rw [List.getElem?_zipWith,h1,h2]
  rw [List.take_add_one,e]
  rfl
theorem dl_snoc {α:Type} {xs:List α} (h:xs≠[]):∃ ys y,xs=ys++[y]:=⟨_,_,(List.dropLast_concat_getLast h).symm⟩
theorem cut_last (xs:List V) (x:V):cutV (xs++[x]) none (some (-1))=xs:=by
  unfold cutV
  have h0:HT.sIx (xs++[x]).length 0 none=0:=rfl
  have h1:HT.sIx (xs++[x]).length (xs++[x]).length (some (-1))=xs.length:=by
    unfold HT.sIx
    rw [List.length_append,List.length_singleton]
    simp
    omega
  rw [h0,h1,List.drop_zero,Nat.sub_zero,List.take_left]
theorem cut_dl {sh:List Int} (h:sh≠[]):cutV (sh.map V.int) none (some (-1))=sh.dropLast.map V.int:=by
  obtain ⟨ys,y,rfl⟩:=dl_snoc h
  rw [List.dropLast_concat,List.map_append]
  exact cut_last _ _
theorem at_last {sh:List Int} (h:sh≠[]):atI (sh.map V.int) (-1)=some (V.int (sh.getLastD 0)):=by
  obtain ⟨ys,y,rfl⟩:=dl_snoc h
  rw [List.map_append]
  refine (L2.atI_last _ _).trans ?_
  simp
theorem last_in {sh:List Int} (h:sh≠[]):sh.getLastD 0∈sh:=by
  obtain ⟨ys,y,rfl⟩:=dl_snoc h
  simp
theorem bits_ge:∀ (ds:List Nat) (r:Nat),r * 2 ^ ds.length≤bitsV r ds
  | [],r=>by show r * 1≤r;omega
  | d :: ds,r=>by
    have:=bits_ge ds (2 * r+d)
    show _≤bitsV (2 * r+d) ds
    refine Nat.le_trans ?_ this
    rw [List.length_cons,Nat.pow_succ]
    have h2:2 * r * 2 ^ ds.length≤(2 * r+d) * 2 ^ ds.length:=Nat.mul_le_mul_right _ (by omega)
    have e:r * (2 ^ ds.length * 2)=2 * r * 2 ^ ds.length:=by rw [Nat.mul_comm (2 ^ ds.length) 2,← Nat.mul_assoc,Nat.mul_comm r 2]
    omega
theorem twS_bz {N:Int} {cs:List Int} (h0:0 < N) (hN:N < 1000000000000000000000000000000):∀ (r:List Int) (p:List Int × List Int),Bz 100 p.1→Bz 100 p.2→Bz 100 (twS N cs r p).1∧Bz 100 (twS N cs r p).2
  | [],p,h1,h2=>⟨h1,h2⟩
  | m :: r,p,_,_=>twS_bz h0 hN r _ (mx_bz h0 hN _ _) (mx_bz h0 hN _ _)
theorem twS_len {N:Int} {cs:List Int} (h0:0 < cs.length):∀ (r:List Int) (p:List Int × List Int),p.1.length=cs.length→p.2.length=cs.length→(twS N cs r p).1.length=cs.length∧(twS N cs r p).2.length=cs.length
  | [],p,h1,h2=>⟨h1,h2⟩
  | m :: r,p,h1,h2=>twS_len h0 r _ (by rw [mx_len,h1,h2];omega) (one_len h2 h0)
theorem sh_bz {N:Int} {cs:List Int} (h0:0 < N) (hN:N < 1000000000000000000000000000000) (sh:List Int) (d:Nat) (h:Bz 100 sh):Bz 100 (shSt N cs sh d):=by
  unfold shSt
  split
  · exact mx_bz h0 hN _ _
  · exact (twS_bz h0 hN sh _ (fun x hx=>by rw [(List.mem_replicate.mp hx).2];decide) h).1
theorem same_upd {H H4:Hp} {m:Addr} {o:HO} (s:Same H H4) (n:H m=none):Same H (upd H4 m o):=fun c u e=>by
  rw [upd_ne (ne_of_none e n)]
  exact s c u e
theorem ret_go {te:TE} {D:Ends} {σ:L2.St} {H:Hp} (h:te σ H D.rt):tRet te D σ H:=h
theorem comp_mx {K:PySem.W.Frag} {ix:List (Option Nat)} {σ:L2.St} {H:Hp} {Q:VK} {i j:Nat} {a b:Addr} {ms cs:List Int} {la N:Int} (e:cst ix σ=[none,none,some (.int la),some (.int N)]) (hi:σ[i]? = some (some (.ref a))) (hj:σ[j]? = some (some (.ref b)))
    (h3:H a=some (.lst (ms.map V.int))) (hc:H b=some (.lst (cs.map V.int))) (hlen:ms.length=cs.length) (h16:cs.length≤16) (bl:Builtin.Int.intBits la≤2 ^ 20) (b2:Bz 5000 cs) (hN:0 < N)
    (k:∀ D H',Same H H'→H D=none→H' D=some (.lst ((mx N la ms cs).map V.int))→Q (.ref D) H') :
    tComp ix (iZip K (tCons (tVar i) (tCons (tVar j) tNil))) (gTup K 2 (gCons (gName 0) (gCons (gName 1) gNil))) tAll (tOp (rI (fun x j=>0 < j) fun i j=>V.int (i % j)) (tOp (rI0 fun i j=>V.int (i+j)) (tVar 0) (tOp (rI (fun i j=>Builtin.Int.intBits i≤2 ^ 20∧Builtin.Int.intBits j≤2 ^ 20) fun i j=>V.int (i * j)) (tVar 2) (tVar 1))) (tVar 3)) σ H Q:=by
  refine ⟨_,hi,_,hj,a,b,rfl,⟨_,SqL.of h3⟩,⟨_,SqL.of hc⟩,?_⟩
  rw [e]
  have elen:(((ms.map V.int).zip (cs.map V.int)).map fun p=>[p.1,p.2]).length=(mx N la ms cs).length:=by rw [mx_len];simp
  refine comp_all2 (τ0:=[none,none,some (.int la),some (.int N)]) (sure_zip (xs:=ms.map V.int) (ys:=cs.map V.int)) (by simp;omega)
    (fun i zs τ H2=>Same H H2∧(∃ v u,τ=[v,u,some (.int la),some (.int N)])∧zs=((mx N la ms cs).take i).map V.int) ⟨Same.refl _,⟨_,_,rfl⟩,rfl⟩ ?_ ?_ ?_
  · rintro i zs τ H2 hi ⟨s2,_,rfl⟩
    refine ⟨⟨SqL.of (s2 _ _ h3),SqL.of (s2 _ _ hc)⟩,?_⟩
    rw [List.length_map,List.length_take]
    omega
  · rintro i us zs τ H2 T hz ⟨s2,⟨v,u,rfl⟩,rfl⟩ hT
    have hi:i < cs.length:=by
      have:=(List.getElem?_eq_some_iff.mp hz).1
      rw [elen,mx_len] at this
      omega
    have hi':i < ms.length:=by omega
    have c1:=List.getElem?_eq_getElem hi'
    have c2:=List.getElem?_eq_getElem hi
    have ez:((ms.map V.int).zip (cs.map V.int))[i]? = some (V.int ms[i],V.int cs[i]):=List.getElem?_zip_eq_some.mpr ⟨by rw [List.getElem?_map,c1];rfl,by rw [List.getElem?_map,c2];rfl⟩
    rw [List.getElem?_map,ez] at hz
    cases hz
    have k2:=bits20 (b2 _ (List.getElem_mem hi)) (by decide)
    refine ⟨T,_,rfl,SqT.of upd_same,rfl,_,_,rfl,_,_,rfl,rfl,?_⟩
    refine ⟨_,rfl,_,rfl,_,rfl,_,_,rfl,rfl,⟨bl,k2⟩,_,_,rfl,rfl,_,rfl,_,_,rfl,rfl,hN,s2.trans (Same.add hT),⟨_,_,rfl⟩,?_⟩
    rw [mx_snoc c1 c2,List.map_append]
    rfl
  · rintro zs τ H2 D ⟨s2,_,rfl⟩ hD
    rw [elen,List.take_length]
    exact k D _ (s2.trans (Same.add hD)) (s2.free hD) upd_same
section
variable {P:Program} {w:World} {K:PySem.W.Frag} {mg:Str→Option Value} {base:Heap} {cNoAge cNoNumber:Addr}
def spPrs:Sp:=fun vs H Q _=>∃ (a b:Addr) (xs ys:List Int) (e1 e2:Nat),vs=[.ref a,.ref b]∧H a=some (.lst (xs.map V.int))∧H b=some (.lst (ys.map V.int))∧xs.length≤1000∧Bz e1 xs∧Bz e2 ys∧e1≤5000∧e2≤5000∧∀ H',Same H H'→Q (.int (dot xs ys)) H'
theorem scPrs:FnScope ["ones","others"] ["ones","others"] (defScope sPrs):=⟨rfl,rfl,rfl,by decide +kernel,rfl,by decide +kernel,by decide +kernel⟩
theorem nd_prs1:(["one","other"]:List Str).Nodup:=by decide +kernel
theorem ok_prs {f:Addr} {fd:FuncData} (F:Fun K "paired_sum" "paired_sum" sPrs f fd)
    (hzip:mg "zip" = none)
    (hsum:mg "sum" = none)
    : FnOk P w K mg base CX0 1 f fd ["ones","others"] spPrs:=by
  refine F.ok scPrs (fun vs H Q E h=>?_) (fun cdv A outer s H vs Q E hr h=>?_)
  · obtain ⟨a,b,xs,ys,e1,e2,rfl,_⟩:=h
    rfl
  · obtain ⟨a,b,xs,ys,e1,e2,rfl,ha,hb,h8,b1,b2,l1,l2,k⟩:=h
    refine ⟨_,(pss_one (ps_ret (pe_callB (call_sumK2 K rfl) (by rfl) hsum (by first | exact PySem.boot_sum | decide +kernel) (pa_cons (pe_comp (N':=["one","other"]) (ix:=[none,none]) rfl rfl (pi_zipK K rfl hzip (pa_cons (pv 0) (pa_cons (pv 1) pa_nil))) (fun _ _ _ _ _ _=>(pg_tupK K (n:=2) rfl (pgs_cons (pg_name (i:=0) nd_prs1 rfl (Or.inl rfl)) (pgs_cons (pg_name (i:=1) nd_prs1 rfl (Or.inl rfl)) pgs_nil)))) (fun _ _ _ _ _ _=>pts_nil) (fun _ _ _ _ _ _=>(pe_op op_mulB (pv 0) (pv 1)))) pa_nil)))),?_⟩
    refine ⟨_,rfl,_,rfl,a,b,rfl,⟨_,SqL.of ha⟩,⟨_,SqL.of hb⟩,?_⟩
    have elen:(((xs.map V.int).zip (ys.map V.int)).map fun p=>[p.1,p.2]).length=(List.zipWith (· * ·) xs ys).length:=by simp
    refine comp_all2 (Q:=fun x Ha=>rSum K [x] Ha Q) (τ0:=[none,none]) (sure_zip (xs:=xs.map V.int) (ys:=ys.map V.int)) (by simp;omega)
      (fun i zs τ H2=>Same H H2∧(∃ v u,τ=[v,u])∧zs=((List.zipWith (· * ·) xs ys).take i).map V.int) ⟨Same.refl _,⟨_,_,rfl⟩,rfl⟩ ?_ ?_ ?_
    · rintro i zs τ H2 hi ⟨s2,_,rfl⟩
      refine ⟨⟨SqL.of (s2 _ _ ha),SqL.of (s2 _ _ hb)⟩,?_⟩
      rw [List.length_map,List.length_take]
      omega
    · rintro i us zs τ H2 T hz ⟨s2,⟨v,u,rfl⟩,rfl⟩ hT
      rw [List.getElem?_map] at hz
      cases ez:((xs.map V.int).zip (ys.map V.int))[i]? with
      | none=>rw [ez] at hz;cases hz
      | some pr =>
        obtain ⟨px,py⟩:=pr
        rw [ez] at hz
        cases hz
        obtain ⟨q1,q2⟩:=List.getElem?_zip_eq_some.mp ez
        rw [List.getElem?_map] at q1 q2
        cases c1:xs[i]? with
        | none=>rw [c1] at q1;cases q1
        | some x =>
          cases c2:ys[i]? with
          | none=>rw [c2] at q2;cases q2
          | some y =>
            rw [c1] at q1
            rw [c2] at q2
            have q1':V.int x=px:=Option.some.inj q1
            have q2':V.int y=py:=Option.some.inj q2
            subst q1' q2'
            have k1:=Nat.le_trans (bits_abs (b1 x (List.mem_of_getElem? c1))) (Nat.le_trans l1 (show 5000≤2 ^ 20 by decide))
            have k2:=Nat.le_trans (bits_abs (b2 y (List.mem_of_getElem? c2))) (Nat.le_trans l2 (show 5000≤2 ^ 20 by decide))
            refine ⟨T,_,rfl,SqT.of upd_same,rfl,_,_,rfl,_,_,rfl,rfl,?_⟩
            refine ⟨_,rfl,_,rfl,_,_,rfl,rfl,⟨k1,k2⟩,s2.trans (Same.add hT),⟨_,_,rfl⟩,?_⟩
            have e3:(List.zipWith (· * ·) xs ys)[i]? = some (x * y):=by rw [List.getElem?_zipWith,c1,c2]
            rw [List.take_add_one,e3,List.map_append]
            rfl
    · rintro zs τ H2 D ⟨s2,_,rfl⟩ hD
      rw [elen,take_all]
      exact ⟨D,_,rfl,SqL.of upd_same,k _ (s2.trans (Same.add hD))⟩
def spOne:Sp:=fun vs H Q _=>∃ (a c:Addr) (sh cs:List Int) (N:Int),vs=[.ref a,.ref c,.int N]∧H a=some (.lst (sh.map V.int))∧H c=some (.lst (cs.map V.int))∧sh.length=cs.length∧0 < cs.length∧cs.length≤16∧Bz 5000 sh∧Bz 5000 cs∧0 < N∧∀ d H',Same H H'→H d=none→H' d=some (.lst ((oneS N cs sh).map V.int))→Q (.ref d) H'
theorem scOne:FnScope ["shares","c","number","last","moved"] ["shares","c","number"] (defScope sOne):=⟨rfl,rfl,rfl,by decide +kernel,rfl,by decide +kernel,by decide +kernel⟩
theorem nd_one1:(["share","factor","last","number"]:List Str).Nodup:=by decide +kernel
theorem ok_one {f:Addr} {fd:FuncData} (F:Fun K "one_on" "one_on" sOne f fd)
    (hzip:mg "zip" = none)
    : FnOk P w K mg base CX0 1 f fd ["shares","c","number"] spOne:=by
  refine F.ok scOne (fun vs H Q E h=>?_) (fun cdv A outer s H vs Q E hr h=>?_)
  · obtain ⟨a,c,sh,cs,N,rfl,_⟩:=h
    rfl
  · obtain ⟨a,c,sh,cs,N,rfl,ha,hc,hl,h0,h16,b1,b2,hN,k⟩:=h
    refine ⟨_,(pss_cons (ps_set (i:=3) scOne.nd rfl (Or.inr rfl) (pe_ix (ix_listK K) (pv 0) (pe_un un_neg pe_int) (fun _ _=>rfl)))
      (pss_cons (ps_set (i:=4) scOne.nd rfl (Or.inl rfl) (pe_op op_cat (pe_lst (pa_cons pe_int pa_nil)) (pe_slice (sl_listK K) (pv 0) po_none (po_some (pe_un un_neg pe_int)))))
      (pss_one (ps_ret (pe_comp (N':=["share","factor","last","number"]) (ix:=[none,none,some 3,some 2]) rfl rfl (pi_zipK K rfl hzip (pa_cons (pv 4) (pa_cons (pv 1) pa_nil))) (fun _ _ _ _ _ _=>(pg_tupK K (n:=2) rfl (pgs_cons (pg_name (i:=0) nd_one1 rfl (Or.inl rfl)) (pgs_cons (pg_name (i:=1) nd_one1 rfl (Or.inl rfl)) pgs_nil)))) (fun _ _ _ _ _ _=>pts_nil) (fun _ _ _ _ _ _=>(pe_op op_mod (pe_op op_add (pv 0) (pe_op op_mulB (pv 2) (pv 1))) (pv 3)))))))),?_⟩
    have hne:sh≠[]:=fun z=>by rw [z] at hl;simp at hl;omega
    have bl:=bits20 (b1 _ (last_in hne)) (by decide)
    refine ⟨_,rfl,_,rfl,a,_,_,_,rfl,rfl,SqL.of ha,at_last hne,?_⟩
    refine ⟨szl (show 1≤1000 by decide),fun a1 n1=>⟨_,rfl,_,rfl,_,rfl,a,_,rfl,SqL.of (Same.add n1 _ _ ha),fun a2 n2=>?_⟩⟩
    rw [show (some ((fun i:Int=>-i) 1))=some (-1) from rfl] at *
    rw [cut_dl hne]
    have e0:[V.int 0]++sh.dropLast.map V.int=(0 :: sh.dropLast).map V.int:=rfl
    refine ⟨a1,a2,_,_,rfl,rfl,Same.add n2 _ _ upd_same,upd_same,szl (by rw [List.length_map,List.length_dropLast];show 1+_≤_;omega),fun a3 n3=>?_⟩
    rw [e0]
    have s3:Same H (upd (upd (upd H a1 (.lst [V.int 0])) a2 (.lst (sh.dropLast.map V.int))) a3 (.lst ((0 :: sh.dropLast).map V.int))):=(Same.add n1).trans ((Same.add n2).trans (Same.add n3))
    have h3:upd (upd (upd H a1 (.lst [V.int 0])) a2 (.lst (sh.dropLast.map V.int))) a3 (.lst ((0 :: sh.dropLast).map V.int)) a3=some (.lst ((0 :: sh.dropLast).map V.int)):=upd_same
    revert s3 h3
    generalize upd (upd (upd H a1 (.lst [V.int 0])) a2 (.lst (sh.dropLast.map V.int))) a3 (.lst ((0 :: sh.dropLast).map V.int))=H3
    intro s3 h3
    have hlen:(0 :: sh.dropLast).length=cs.length:=by rw [List.length_cons,List.length_dropLast];omega
    dsimp only [gName]
    exact ret_go (comp_mx rfl rfl rfl h3 (s3 _ _ hc) hlen h16 bl (b2.mono (by decide)) hN fun d H' s' n' e'=>k d H' (s3.trans s') (s3.free n') e')
def spTwi:Sp:=fun vs H Q _=>∃ (a c:Addr) (sh cs:List Int) (N:Int),vs=[.ref a,.ref c,.int N]∧H a=some (.lst (sh.map V.int))∧H c=some (.lst (cs.map V.int))∧sh.length=cs.length∧0 < cs.length∧cs.length≤16∧Bz 100 sh∧Bz 5000 cs∧0 < N∧N < 1000000000000000000000000000000∧∀ d H',Same H H'→H d=none→H' d=some (.lst ((twi N cs sh).map V.int))→Q (.ref d) H'
theorem scTwi:FnScope ["shares","c","number","told","beyond","many"] ["shares","c","number"] (defScope sTwi):=⟨rfl,rfl,rfl,by decide +kernel,rfl,by decide +kernel,by decide +kernel⟩
theorem nd_twi1:(["share"]:List Str).Nodup:=by decide +kernel
theorem nd_twi2:(["share","more","many","number"]:List Str).Nodup:=by decide +kernel
theorem ok_twi {f fOne:Addr} {fd fdOne:FuncData} (F:Fun K "twice_as_far" "twice_as_far" sTwi f fd)
    (GOne:FnOk P w K mg base CX0 1 fOne fdOne ["shares","c","number"] spOne)
    (gOne:Gf K mg "one_on" fOne fdOne ["shares","c","number"])
    (hzip:mg "zip" = none)
    : FnOk P w K mg base CX0 2 f fd ["shares","c","number"] spTwi:=by
  refine F.ok scTwi (fun vs H Q E h=>?_) (fun cdv A outer s H vs Q E hr h=>?_)
  · obtain ⟨a,c,sh,cs,N,rfl,_⟩:=h
    rfl
  · obtain ⟨a,c,sh,cs,N,rfl,ha,hc,hl,h0,h16,b1,b2,hN,hN2,k⟩:=h
    refine ⟨_,(pss_cons (ps_setC (i:=3) (N':=["share"]) (ix:=[none]) scTwi.nd rfl rfl rfl rfl (pi_listK K (pv 0)) (fun _ _ _ _ _ _=>(pg_name (i:=0) nd_twi1 rfl (Or.inl rfl))) (fun _ _ _ _ _ _=>pts_nil) (fun _ _ _ _ _ _=>pe_int))
      (pss_cons (ps_set (i:=4) scTwi.nd rfl (Or.inl rfl) (pv 0))
      (pss_cons (ps_for PassesOwn.never rfl (pi_listK K (pv 0)) (pg_name (i:=5) scTwi.nd rfl (Or.inr rfl)) (pss_cons (ps_setC (i:=3) (N':=["share","more","many","number"]) (ix:=[none,none,some 5,some 2]) scTwi.nd rfl rfl rfl rfl (pi_zipK K rfl hzip (pa_cons (pv 3) (pa_cons (pv 4) pa_nil))) (fun _ _ _ _ _ _=>(pg_tupK K (n:=2) rfl (pgs_cons (pg_name (i:=0) nd_twi2 rfl (Or.inl rfl)) (pgs_cons (pg_name (i:=1) nd_twi2 rfl (Or.inl rfl)) pgs_nil)))) (fun _ _ _ _ _ _=>pts_nil) (fun _ _ _ _ _ _=>(pe_op op_mod (pe_op op_add (pv 0) (pe_op op_mulB (pv 2) (pv 1))) (pv 3))))
      (pss_one (ps_set (i:=4) scTwi.nd rfl (Or.inl rfl) (pe_call GOne hr rfl gOne.m gOne.k gOne.b .nil pass0 (pa_cons (pv 4) (pa_cons (pv 1) (pa_cons (pv 2) pa_nil))))))))
      (pss_one (ps_ret (pv 3)))))),?_⟩
    rw [tSeq]
    refine ⟨_,rfl,a,rfl,⟨_,SqL.of ha⟩,?_⟩
    refine comp_allR (τ0:=[none]) (sure_list (xs:=sh.map V.int)) (by rw [List.length_map];omega) (fun i ys τ H2=>H2=H∧(∃ v,τ=[v])∧ys=(List.replicate i (0:Int)).map V.int) ⟨rfl,⟨_,rfl⟩,rfl⟩ ?_ ?_ ?_
    · rintro i ys τ H2 hi ⟨rfl,_,rfl⟩
      exact ⟨SqL.of ha,by rw [List.length_map,List.length_replicate];exact Nat.le_refl _⟩
    · rintro i y ys τ H2 hy ⟨rfl,⟨v,rfl⟩,rfl⟩
      exact ⟨rfl,⟨_,rfl⟩,by rw [List.replicate_succ',List.map_append];rfl⟩
    rintro ys τ H2 t0 ⟨rfl,_,rfl⟩ nt0
    rw [List.length_map]
    have s1:=Same.add (o:=.lst ((List.replicate sh.length (0:Int)).map V.int)) nt0
    have ht0:upd H2 t0 (.lst ((List.replicate sh.length (0:Int)).map V.int)) t0=some (.lst ((List.replicate sh.length (0:Int)).map V.int)):=upd_same
    revert s1 ht0
    generalize upd H2 t0 (.lst ((List.replicate sh.length (0:Int)).map V.int))=H1
    intro s1 ht0
    have bz0:Bz 100 (List.replicate sh.length (0:Int)):=fun x hx=>by rw [(List.mem_replicate.mp hx).2];decide
    refine ⟨_,rfl,?_⟩
    refine ⟨_,rfl,a,rfl,⟨_,SqL.of (s1 _ _ ha)⟩,?_⟩
    refine for_by (sure_list (xs:=sh.map V.int)) (fun i σ H3=>∃ (t b:Addr) (v5:Option V),σ=[some (.ref a),some (.ref c),some (.int N),some (.ref t),some (.ref b),v5]∧Same H2 H3∧H2 t=none∧H3 t=some (.lst ((twS N cs (sh.take i) (List.replicate sh.length 0,sh)).1.map V.int))∧H3 b=some (.lst ((twS N cs (sh.take i) (List.replicate sh.length 0,sh)).2.map V.int)))
      ⟨t0,a,_,rfl,s1,nt0,ht0,s1 _ _ ha⟩ (fun _ _ _ _ h=>by
        obtain ⟨_,_,_,_,h,_⟩:=h
        exact SqL.of (h _ _ ha)) ?_ ?_
    · rintro i y σ H3 hy ⟨t,b,v5,rfl,s3,nt,ht,hb⟩
      rw [List.getElem?_map] at hy
      cases e:sh[i]? with
      | none=>rw [e] at hy;cases hy
      | some m =>
        rw [e] at hy
        cases hy
        have et:sh.take (i+1)=sh.take i++[m]:=by rw [List.take_add_one,e];rfl
        have ln:=twS_len (N:=N) h0 (sh.take i) (List.replicate sh.length 0,sh) (by rw [List.length_replicate];exact hl) hl
        have bz:=twS_bz (cs:=cs) hN hN2 (sh.take i) (List.replicate sh.length 0,sh) bz0 b1
        rw [et,twS_snoc]
        generalize twS N cs (sh.take i) (List.replicate sh.length 0,sh)=pp at ht hb ln bz
        dsimp only [gName]
        rw [tSeq]
        refine comp_mx rfl rfl rfl ht hb (by omega) (by omega) (bits20 (b1 m (List.mem_of_getElem? e)) (by decide)) (bz.2.mono (by decide)) hN fun t' H4 s4 nt' ht'=>?_
        refine ⟨_,rfl,_,rfl,_,rfl,b,c,pp.2,cs,N,rfl,s4 _ _ hb,s4 _ _ (s3 _ _ hc),by omega,h0,h16,bz.2.mono (by decide),b2,hN,fun b' H5 s5 nb' hb'=>?_⟩
        exact ⟨t',b',_,rfl,s3.trans (s4.trans s5),s3.free nt',s5 _ _ ht',hb'⟩
    · rintro σ H3 ⟨t,b,v5,rfl,s3,nt,ht,hb⟩
      rw [List.length_map,List.take_length] at ht
      exact ⟨_,rfl,k t H3 s3 nt ht⟩
end
end Lw
namespace Lw
open PySem L2 PyProof.Rows
abbrev vN (x:Nat):V:=.int (x:Int)
theorem bits_snoc (r:Nat) (ds:List Nat):bitsV (r / 2) (ds++[r % 2]).reverse=bitsV r ds.reverse:=by
  rw [List.reverse_append]
  show bitsV (2 * (r / 2)+r % 2) ds.reverse=_
  rw [show 2 * (r / 2)+r % 2=r by omega]
theorem p200:(1000000000000000000000000000000000000000000000000000000000000:Nat) < 2 ^ 200:=by decide +kernel
theorem cut_drop (xs:List V) (m:Nat):cutV xs (some (m:Int)) none=xs.drop m:=by
  unfold cutV
  rw [HT.sIx_nat,HT.sIx_none]
  by_cases h:m≤xs.length
  · rw [Nat.min_eq_left h,List.take_of_length_le (by rw [List.length_drop];omega)]
  · rw [Nat.min_eq_right (by omega),List.drop_length,List.drop_of_length_le (by omega)]
    exact List.take_nil
theorem comp_zero {K:PySem.W.Frag} {σ:L2.St} {H:Hp} {Q:VK} {tl:TE} {cs:List Int} (hσ:cst [none] σ=[none]) (ht:∀ R:VK,(∀ p,H p=none→R (.ref p) (upd H p (.lst (cutV (cs.map V.int) (some 1) none))))→tl σ H R) (h16:cs.length≤100)
    (k:∀ D H',Same H H'→H' D=some (.lst ((List.replicate (cs.length - 1) (0:Int)).map V.int))→Q (.ref D) H'):tComp [none] (iList K tl) (gName 0) tAll (tC (V.int 0)) σ H Q:=by
  refine ht _ fun p np=>⟨p,rfl,⟨_,SqL.of upd_same⟩,?_⟩
  rw [hσ,show (some (1:Int))=some ((1:Nat):Int) from rfl,cut_drop]
  have el:((cs.map V.int).drop 1).length=cs.length - 1:=by rw [List.length_drop,List.length_map]
  refine comp_allR (τ0:=[none]) (sure_list (xs:=(cs.map V.int).drop 1)) (by omega) (fun i ys τ H2=>H2=upd H p (.lst ((cs.map V.int).drop 1))∧(∃ v,τ=[v])∧ys=(List.replicate i (0:Int)).map V.int) ⟨rfl,⟨_,rfl⟩,rfl⟩ ?_ ?_ ?_
  · rintro i ys τ H2 hi ⟨rfl,_,rfl⟩
    exact ⟨SqL.of upd_same,by rw [List.length_map,List.length_replicate];exact Nat.le_refl _⟩
  · rintro i y ys τ H2 hy ⟨rfl,⟨v,rfl⟩,rfl⟩
    exact ⟨rfl,⟨_,rfl⟩,by rw [List.replicate_succ',List.map_append];rfl⟩
  · rintro ys τ H2 D ⟨rfl,_,rfl⟩ nD
    rw [el]
    exact k D _ ((Same.add np).trans (Same.add nD)) upd_same
section
variable {P:Program} {w:World} {K:PySem.W.Frag} {mg:Str→Option Value} {base:Heap} {cNoAge cNoNumber:Addr}
def spFig (K:PySem.W.Frag):Sp:=fun vs H Q _=>∃ n:Nat,vs=[.int (n:Int)]∧n < 1000000000000000000000000000000000000000000000000000000000000∧∀ (d:Addr) (ds:List Nat) H',Same H H'→H' d=some (.lst (ds.map vN))→ds.length≤1000→(∀ x∈ds,x < 2)→bitsV 0 ds=n→Q (.ref d) H'
theorem scFig:FnScope ["age","told","rest"] ["age"] (defScope sFig):=⟨rfl,rfl,rfl,by decide +kernel,rfl,by decide +kernel,by decide +kernel⟩
theorem ok_fig {f:Addr} {fd:FuncData} (F:Fun K "figures_by_twos" "figures_by_twos" sFig f fd)
    (hlist:mg "list" = none)
    (hreversed:mg "reversed" = none)
    : FnOk P w K mg base CX0 1 f fd ["age"] (spFig K):=by
  refine F.ok scFig (fun vs H Q E h=>?_) (fun cdv A outer s H vs Q E hr h=>?_)
  · obtain ⟨n,rfl,_⟩:=h
    rfl
  · obtain ⟨n,rfl,hn,k⟩:=h
    refine ⟨_,(pss_cons (ps_set (i:=1) scFig.nd rfl (Or.inl rfl) (pe_lst pa_nil))
      (pss_cons (ps_set (i:=2) scFig.nd rfl (Or.inl rfl) (pv 0))
      (pss_cons (ps_while PassesOwn.never (pt_cmpR op_gt (pv 2) pe_int (nomark _)) (pss_cons (ps_expr (pe_bmK K PySem.F.plainAttrs_list PySem.F.slot_list_append PySem.F.type_list_append mt_append (pv 1) (pa_cons (pe_op op_mod (pv 2) pe_int) pa_nil)))
      (pss_one (ps_set (i:=2) scFig.nd rfl (Or.inl rfl) (pe_op op_fdiv (pv 2) pe_int)))))
      (pss_one (ps_ret (pe_listRevK K rfl rfl hlist rfl hreversed (pa_cons (pv 1) pa_nil))))))),?_⟩
    refine ⟨szl (show 0≤1000 by decide),fun l nl=>⟨_,rfl,?_⟩⟩
    dsimp only [gName]
    rw [tSeq]
    refine ⟨fun m σ H2=>∃ ds:List Nat,σ=[some (.int (n:Int)),some (.ref l),some (.int (m:Int))]∧Same H H2∧H2 l=some (.lst (ds.map vN))∧(∀ x∈ds,x < 2)∧bitsV m ds.reverse=n∧ds.length≤200,⟨n,[],rfl,Same.add nl,upd_same,(fun x hx=>by cases hx),rfl,by decide⟩,?_⟩
    rintro m σ H2 ⟨ds,rfl,s2,hl,hd,hb,h200⟩
    refine ⟨_,rfl,_,_,rfl,rfl,_,rfl,ite2 (fun hc=>?_) (fun hc=>?_)⟩
    · have hm:(0:Int) < (m:Int):=of_decide_eq_true hc
      have hlen:ds.length < 200:=by
        have h1:=bits_ge ds.reverse m
        rw [hb,List.length_reverse] at h1
        by_cases h:ds.length < 200
        · exact h
        · have h2:2 ^ 200≤2 ^ ds.length:=Nat.pow_le_pow_right (by decide) (by omega)
          have h3:1 * 2 ^ ds.length≤m * 2 ^ ds.length:=Nat.mul_le_mul_right _ (by omega)
          have:=p200
          omega
      refine ⟨fun σ' H'=>∃ m',m' < m∧∃ ds:List Nat,σ'=[some (.int (n:Int)),some (.ref l),some (.int (m':Int))]∧Same H H'∧H' l=some (.lst (ds.map vN))∧(∀ x∈ds,x < 2)∧bitsV m' ds.reverse=n∧ds.length≤200,fun _ _ h=>h,?_⟩
      refine ⟨_,rfl,.inl ⟨rfl,_,SqL.of hl⟩,_,rfl,_,_,rfl,rfl,(show (0:Int) < 2 by decide),l,_,_,rfl,rfl,hl,szl (by rw [List.length_map];omega),?_⟩
      refine ⟨_,rfl,_,_,rfl,rfl,⟨by decide,by decide⟩,m / 2,by omega,ds++[m % 2],?_,same_upd s2 nl,?_,fun x hx=>?_,?_,by rw [List.length_append];show _+1≤_;omega⟩
      · rfl
      · rw [upd_same,List.map_append]
        rfl
      · rcases List.mem_append.mp hx with h | h
        · exact hd x h
        · rw [List.mem_singleton.mp h];exact Nat.mod_lt _ (by decide)
      · rw [bits_snoc]
        exact hb
    · have hm:m=0:=by
        by_cases h:m=0
        · exact h
        · exact absurd (decide_eq_true (show (0:Int) < (m:Int) by omega)) hc
      subst hm
      refine ⟨_,rfl,l,_,rfl,SqL.of hl,fun d nd=>?_⟩
      refine k d ds.reverse _ (s2.trans (Same.add nd)) (by rw [upd_same,List.map_reverse]) (by rw [List.length_reverse];omega) (fun x hx=>hd x (List.mem_reverse.mp hx)) hb
def spShs (K:PySem.W.Frag):Sp:=fun vs H Q _=>∃ (c:Addr) (cs:List Int) (n:Nat) (N:Int),vs=[.ref c,.int (n:Int),.int N]∧H c=some (.lst (cs.map V.int))∧0 < cs.length∧cs.length≤16∧Bz 5000 cs∧n < 1000000000000000000000000000000000000000000000000000000000000∧0 < N∧N < 1000000000000000000000000000000 ∧
  ∀ (d:Addr) (sh:List Int) H',Same H H'→H' d=some (.lst (sh.map V.int))→Rep N cs n sh→Bz 100 sh→Q (.ref d) H'
theorem scShs:FnScope ["c","age","number","shares","figure"] ["c","age","number"] (defScope sShs):=⟨rfl,rfl,rfl,by decide +kernel,rfl,by decide +kernel,by decide +kernel⟩
theorem nd_shs1:(["factor"]:List Str).Nodup:=by decide +kernel
theorem ok_shs {f fFig fTwi fOne:Addr} {fd fdFig fdTwi fdOne:FuncData} (F:Fun K "shares_at" "shares_at" sShs f fd)
    (GFig:FnOk P w K mg base CX0 1 fFig fdFig ["age"] (spFig K))
    (gFig:Gf K mg "figures_by_twos" fFig fdFig ["age"])
    (GTwi:FnOk P w K mg base CX0 2 fTwi fdTwi ["shares","c","number"] spTwi)
    (gTwi:Gf K mg "twice_as_far" fTwi fdTwi ["shares","c","number"])
    (GOne:FnOk P w K mg base CX0 1 fOne fdOne ["shares","c","number"] spOne)
    (gOne:Gf K mg "one_on" fOne fdOne ["shares","c","number"])
    : FnOk P w K mg base CX0 3 f fd ["c","age","number"] (spShs K):=by
  refine F.ok scShs (fun vs H Q E h=>?_) (fun cdv A outer s H vs Q E hr h=>?_)
  · obtain ⟨c,cs,n,N,rfl,_⟩:=h
    rfl
  · obtain ⟨c,cs,n,N,rfl,hc,h0,h16,b2,hn,hN,hN2,k⟩:=h
    have hr1:Room 1 _:=hr.mono (by decide)
    refine ⟨_,(pss_cons (ps_set (i:=3) scShs.nd rfl (Or.inl rfl) (pe_op op_cat (pe_lst (pa_cons pe_int pa_nil)) (pe_comp (N':=["factor"]) (ix:=[none]) rfl rfl (pi_listK K (pe_slice (sl_listK K) (pv 0) (po_some pe_int) po_none)) (fun _ _ _ _ _ _=>(pg_name (i:=0) nd_shs1 rfl (Or.inl rfl))) (fun _ _ _ _ _ _=>pts_nil) (fun _ _ _ _ _ _=>pe_int))))
      (pss_cons (ps_for PassesOwn.never rfl (pi_listK K (pe_call GFig hr1 rfl gFig.m gFig.k gFig.b .nil pass0 (pa_cons (pv 1) pa_nil))) (pg_name (i:=4) scShs.nd rfl (Or.inl rfl)) (pss_cons (ps_set (i:=3) scShs.nd rfl (Or.inl rfl) (pe_call GTwi hr rfl gTwi.m gTwi.k gTwi.b .nil pass0 (pa_cons (pv 3) (pa_cons (pv 0) (pa_cons (pv 2) pa_nil)))))
      (pss_one (ps_if (pt_cmpR op_eq (pv 4) pe_int (nomark _)) (pss_one (ps_set (i:=3) scShs.nd rfl (Or.inl rfl) (pe_call GOne hr1 rfl gOne.m gOne.k gOne.b .nil pass0 (pa_cons (pv 3) (pa_cons (pv 0) (pa_cons (pv 2) pa_nil)))))) pss_nil))))
      (pss_one (ps_ret (pv 3))))),?_⟩
    refine ⟨szl (show 1≤1000 by decide),fun a1 n1=>?_⟩
    dsimp only [tNil]
    refine comp_zero (cs:=cs) rfl (fun R h=>⟨_,rfl,_,rfl,c,_,rfl,SqL.of (Same.add n1 _ _ hc),h⟩) (by omega) fun d0 H1 s1 hd0=>?_
    refine ⟨a1,d0,_,_,rfl,rfl,s1 _ _ upd_same,hd0,szl (by rw [List.length_map,List.length_replicate];show 1+_≤_;omega),fun a3 n3=>?_⟩
    rw [show [V.int 1]++(List.replicate (cs.length - 1) (0:Int)).map V.int=(1 :: List.replicate (cs.length - 1) 0).map V.int from rfl]
    have s3:=((Same.add (o:=.lst [V.int 1]) n1).trans s1).trans (Same.add (o:=.lst ((1 :: List.replicate (cs.length - 1) (0:Int)).map V.int)) n3)
    have h3:upd H1 a3 (.lst ((1 :: List.replicate (cs.length - 1) (0:Int)).map V.int)) a3=some (.lst ((1 :: List.replicate (cs.length - 1) (0:Int)).map V.int)):=upd_same
    revert s3 h3
    generalize upd H1 a3 (.lst ((1 :: List.replicate (cs.length - 1) (0:Int)).map V.int))=H3
    intro s3 h3
    refine ⟨_,rfl,n,rfl,hn,fun f ds H4 s4 hf hlen hds hval=>⟨f,rfl,⟨_,SqL.of hf⟩,?_⟩⟩
    have s04:=s3.trans s4
    have b0:Bz 100 (1 :: List.replicate (cs.length - 1) (0:Int)):=fun x hx=>by
      rcases List.mem_cons.mp hx with h | h
      · rw [h];decide
      · rw [(List.mem_replicate.mp h).2];decide
    refine for_by (sure_list (xs:=ds.map vN)) (fun i σ H5=>∃ (a:Addr) (sh:List Int) (v4:Option V),σ=[some (.ref c),some (.int (n:Int)),some (.int N),some (.ref a),v4]∧Same H4 H5∧H5 a=some (.lst (sh.map V.int))∧Rep N cs (bitsV 0 (ds.take i)) sh∧Bz 100 sh)
      ⟨a3,_,_,rfl,Same.refl _,s4 _ _ h3,first_rep h0,b0⟩ (fun _ _ _ _ h=>by
        obtain ⟨_,_,_,_,h,_⟩:=h
        exact SqL.of (h _ _ hf)) ?_ ?_
    · rintro i y σ H5 hy ⟨a,sh,v4,rfl,s5,ha,hrep,hbz⟩
      rw [List.getElem?_map] at hy
      cases e:ds[i]? with
      | none=>rw [e] at hy;cases hy
      | some d =>
        rw [e] at hy
        cases hy
        have hd2:=hds d (List.mem_of_getElem? e)
        have et:bitsV 0 (ds.take (i+1))=2 * bitsV 0 (ds.take i)+d:=by
          rw [List.take_add_one,e]
          show ((ds.take i)++[d]).foldl _ 0=_
          rw [List.foldl_append]
          rfl
        have hst:=st_rep (d:=d) h0 hd2 hrep
        rw [← et] at hst
        have hsb:=sh_bz (cs:=cs) hN hN2 sh d hbz
        refine ⟨_,rfl,_,rfl,_,rfl,a,c,sh,cs,N,rfl,ha,s5 _ _ (s04 _ _ hc),hrep.len,h0,h16,hbz,b2,hN,hN2,fun a' H6 s6 na' ha'=>?_⟩
        refine ⟨_,rfl,rfl,_,rfl,ite2 (fun hc1=>?_) (fun hc1=>?_)⟩
        · have hd1:d=1:=by
            have:(d:Int)=1:=V.int.inj (of_decide_eq_true hc1)
            omega
          unfold shSt at hst hsb
          rw [if_pos hd1] at hst hsb
          have h2:=twi_rep h0 hrep
          have bz2:Bz 100 (twi N cs sh):=(twS_bz hN hN2 sh _ (fun x hx=>by rw [(List.mem_replicate.mp hx).2];decide) hbz).1
          refine ⟨_,rfl,_,rfl,_,rfl,a',c,_,cs,N,rfl,ha',s6 _ _ (s5 _ _ (s04 _ _ hc)),h2.len,h0,h16,bz2.mono (by decide),b2,hN,fun a2 H7 s7 na2 ha2=>?_⟩
          exact ⟨a2,_,_,rfl,s5.trans (s6.trans s7),ha2,hst,hsb⟩
        · have hd1:d≠1:=fun z=>hc1 (decide_eq_true (by rw [z];rfl))
          unfold shSt at hst hsb
          rw [if_neg hd1] at hst hsb
          exact ⟨a',_,_,rfl,s5.trans s6,ha',hst,hsb⟩
    · rintro σ H5 ⟨a,sh,v4,rfl,s5,ha,hrep,hbz⟩
      rw [List.length_map,List.take_length,hval] at hrep
      exact ⟨_,rfl,k a sh H5 (s04.trans s5) ha hrep hbz⟩
def spUnwX (K:PySem.W.Frag) (cA cN:Addr):Sp:=fun vs H Q E=>∃ zc zs za zn:V,vs=[zc,zs,za,zn] ∧
  ((LiBad K H zc∧∀ H',Same H H'→E (.ref cN) none H')∨∃ cs,LiOk H zc cs∧Bz 5000 cs ∧
    (((LiBad K H zs∨∃ ss,LiOk H zs ss∧ss.length≠cs.length)∧∀ H',Same H H'→E (.ref cN) none H')∨∃ ss,LiOk H zs ss∧ss.length=cs.length∧Bz 5000 ss ∧
      ((FarBad K H za∧∀ H',Same H H'→E (.ref cA) none H')∨∃ n:Nat,za=.int (n:Int)∧n < 1000000000000000000000000000000000000000000000000000000000000 ∧
        ((NumBad K H zn∧∀ H',Same H H'→E (.ref cN) none H')∨∃ N:Int,zn=.int N∧0 < N∧N < 1000000000000000000000000000000∧∀ H',Same H H'→Q (.int (xN cs ss n % N)) H'))))
theorem scUnw:FnScope ["c","starts","age","number"] ["c","starts","age","number"] (defScope sUnw):=⟨rfl,rfl,rfl,by decide +kernel,rfl,by decide +kernel,by decide +kernel⟩
theorem ok_unwx {f fNfa fNnu fWli fPrs fShs:Addr} {fd fdNfa fdNnu fdWli fdPrs fdShs:FuncData} (F:Fun K "unwound" "unwound" sUnw f fd)
    (GNfa:FnOk P w K mg base (CX1 P w) 3 fNfa fdNfa ["age"] (spNfaX K cNoAge))
    (gNfa:Gf K mg "need_far_age" fNfa fdNfa ["age"])
    (GNnu:FnOk P w K mg base (CX1 P w) 3 fNnu fdNnu ["number"] (spNnuX K cNoNumber))
    (gNnu:Gf K mg "need_number" fNnu fdNnu ["number"])
    (GWli:FnOk P w K mg base CX0 2 fWli fdWli ["thing"] (spWli K))
    (gWli:Gf K mg "is_whole_list" fWli fdWli ["thing"])
    (GPrs:FnOk P w K mg base CX0 1 fPrs fdPrs ["ones","others"] spPrs)
    (gPrs:Gf K mg "paired_sum" fPrs fdPrs ["ones","others"])
    (GShs:FnOk P w K mg base CX0 3 fShs fdShs ["c","age","number"] (spShs K))
    (gShs:Gf K mg "shares_at" fShs fdShs ["c","age","number"])
    (oNoNumber:OwnCls "NoNumber" cNoNumber bmV "ValueError.__new__" mg base)
    (hlen:mg "len" = none)
    : FnOk P w K mg base (CX1 P w) 4 f fd ["c","starts","age","number"] (spUnwX K cNoAge cNoNumber):=by
  refine F.ok1 scUnw (fun vs H Q E h=>?_) (fun cdv A outer s H vs Q E hr h=>?_)
  · obtain ⟨zc,zs,za,zn,rfl,_⟩:=h
    rfl
  · obtain ⟨zc,zs,za,zn,rfl,k⟩:=h
    have hr1:Room 1 _:=hr.mono (by decide)
    have hr2:Room 2 _:=hr.mono (by decide)
    refine ⟨_,(pss_cons (ps_if (pt_not (pt_val (pe_call GWli hr2 rfl gWli.m gWli.k gWli.b .nil pass0 (pa_cons (pv 0) pa_nil)))) (pss_one (ps_raise oNoNumber PySem.F.excBase_ValueError rfl (pa_cons pe_str pa_nil))) pss_nil)
      (pss_cons (ps_if (PW.pt (pw_or (pt_not (pt_val (pe_call GWli hr2 rfl gWli.m gWli.k gWli.b .nil pass0 (pa_cons (pv 1) pa_nil)))) (pw_or1 (pt_cmpR op_ne (pe_callB (call_lenK K) (by rfl) hlen PySem.boot_len (pa_cons (pv 1) pa_nil)) (pe_callB (call_lenK K) (by rfl) hlen PySem.boot_len (pa_cons (pv 0) pa_nil)) (nomark _))))) (pss_one (ps_raise oNoNumber PySem.F.excBase_ValueError rfl (pa_cons pe_str pa_nil))) pss_nil)
      (pss_cons (ps_expr (pe_call GNfa hr rfl gNfa.m gNfa.k gNfa.b .nil pass1 (pa_cons (pv 2) pa_nil)))
      (pss_cons (ps_expr (pe_call GNnu hr rfl gNnu.m gNnu.k gNnu.b .nil pass1 (pa_cons (pv 3) pa_nil)))
      (pss_cons (ps_if (pt_not (pt_truthK K (pv 0) (fun _=>rfl))) (pss_one (ps_ret pe_int)) pss_nil)
      (pss_one (ps_ret (pe_op op_mod (pe_call GPrs hr1 rfl gPrs.m gPrs.k gPrs.b .nil pass0 (pa_cons (pe_call GShs hr rfl gShs.m gShs.k gShs.b .nil pass0 (pa_cons (pv 0) (pa_cons (pv 2) (pa_cons (pv 3) pa_nil)))) (pa_cons (pv 1) pa_nil))) (pv 3))))))))),?_⟩
    rcases k with ⟨hb,k⟩ | ⟨cs,hc,bc,k⟩
    · exact ⟨_,rfl,zc,rfl,.inr ⟨hb,fun H1 s1=>⟨_,rfl,iteT ⟨by decide,k H1 s1⟩⟩⟩⟩
    refine ⟨_,rfl,zc,rfl,.inl ⟨cs,hc,fun H1 s1=>⟨_,rfl,iteF ?_⟩⟩⟩
    obtain ⟨a,rfl,ha,h16⟩:=hc
    have ec:(cs.map V.int).length=cs.length:=List.length_map _
    rcases k with ⟨hb,k⟩ | ⟨ss,⟨b,rfl,hb,hs16⟩,hl,bs,k⟩
    · rcases hb with hb | ⟨ss,⟨b,rfl,hb,hs16⟩,hl⟩
      · exact ⟨_,rfl,zs,rfl,.inr ⟨hb.keep s1,fun H2 s2=>⟨_,rfl,iteT (iteT ⟨by decide,k H2 (s1.trans s2)⟩)⟩⟩⟩
      · have es:(ss.map V.int).length=ss.length:=List.length_map _
        refine ⟨_,rfl,_,rfl,.inl ⟨ss,⟨b,rfl,s1 _ _ hb,hs16⟩,fun H2 s2=>⟨_,rfl,iteF ⟨_,rfl,b,_,rfl,.inl (SqL.of (s2 _ _ (s1 _ _ hb))),_,rfl,a,_,rfl,.inl (SqL.of (s2 _ _ (s1 _ _ ha))),rfl,_,rfl,?_⟩⟩⟩⟩
        rw [show (!decide (V.int (((ss.map V.int).length:Nat):Int)=V.int (((cs.map V.int).length:Nat):Int)))=true from by
          rw [decide_eq_false]
          · rfl
          · intro z
            have:=V.int.inj z
            omega]
        exact iteT ⟨by decide,k H2 (s1.trans s2)⟩
    have es:(ss.map V.int).length=ss.length:=List.length_map _
    refine ⟨_,rfl,_,rfl,.inl ⟨ss,⟨b,rfl,s1 _ _ hb,hs16⟩,fun H2 s2=>⟨_,rfl,iteF ⟨_,rfl,b,_,rfl,.inl (SqL.of (s2 _ _ (s1 _ _ hb))),_,rfl,a,_,rfl,.inl (SqL.of (s2 _ _ (s1 _ _ ha))),rfl,_,rfl,?_⟩⟩⟩⟩
    rw [show (!decide (V.int (((ss.map V.int).length:Nat):Int)=V.int (((cs.map V.int).length:Nat):Int)))=false from by
      rw [decide_eq_true]
      · rfl
      · rw [es,ec,hl]]
    have s12:=s1.trans s2
    refine iteF ⟨_,rfl,za,rfl,?_⟩
    rcases k with ⟨hz,k⟩ | ⟨n,rfl,hn,k⟩
    · exact .inr ⟨hz.keep fun _ _ _ e=>s12 _ _ e,k H2 s12⟩
    refine .inl ⟨⟨n,rfl,hn⟩,_,rfl,zn,rfl,?_⟩
    rcases k with ⟨hz,k⟩ | ⟨N,rfl,h0,hN,k⟩
    · exact .inr ⟨hz.keep fun _ _ _ e=>s12 _ _ e,k H2 s12⟩
    refine .inl ⟨⟨N,rfl,h0,hN⟩,?_⟩
    refine ⟨_,rfl,_,.inl ⟨_,SqL.of (s12 _ _ ha),rfl⟩,?_⟩
    by_cases hcs:cs=[]
    · subst hcs
      have hss:ss=[]:=List.length_eq_zero_iff.mp hl
      subst hss
      have:=k H2 s12
      rw [xN_nil,Int.zero_emod] at this
      exact iteT this
    have hpos:0 < cs.length:=List.length_pos_iff.mpr hcs
    rw [show (!(cs.map V.int).isEmpty)=true from by cases cs with | nil=>exact absurd rfl hcs | cons _ _=>rfl]
    refine iteF ?_
    refine ⟨_,rfl,_,rfl,_,rfl,a,cs,n,N,rfl,s12 _ _ ha,hpos,h16,bc,hn,h0,hN,fun d sh H3 s3 hd hrep hbz=>?_⟩
    refine ⟨_,rfl,d,b,sh,ss,100,5000,rfl,hd,s3 _ _ (s12 _ _ hb),by rw [hrep.len];omega,hbz,bs,by decide,by decide,fun H4 s4=>⟨_,rfl,_,_,rfl,rfl,h0,?_⟩⟩
    show Q (.int (dot sh ss % N)) H4
    rw [rep_val hl hrep]
    exact k H4 (s12.trans (s3.trans s4))
end
end Lw
namespace Lw
open PySem L2 PyProof.Rows
inductive Ans where
  | age
  | number
  | told (v:Int)
def AnsIn (K:PySem.W.Frag) (H:Hp) (zc zs za zn:V):Ans→Prop
  | .age=>∃ cs ss,LiOk H zc cs∧Bz 5000 cs∧LiOk H zs ss∧ss.length=cs.length∧Bz 5000 ss∧FarBad K H za
  | .number=>LiBad K H zc∨∃ cs,LiOk H zc cs∧Bz 5000 cs∧((LiBad K H zs∨∃ ss,LiOk H zs ss∧ss.length≠cs.length)∨∃ ss,LiOk H zs ss∧ss.length=cs.length∧Bz 5000 ss∧FarOk za∧NumBad K H zn)
  | .told v=>∃ cs ss,LiOk H zc cs∧Bz 5000 cs∧LiOk H zs ss∧ss.length=cs.length∧Bz 5000 ss∧∃ (n:Nat) (N:Int),za=.int (n:Int)∧n < 1000000000000000000000000000000000000000000000000000000000000∧zn=.int N∧0 < N∧N < 1000000000000000000000000000000∧v=xN cs ss n % N
def AnsAt (H:Hp) (z:V):Ans→Prop
  | .age=>∃ l,z=.ref l∧H l=some (.lst [.str (Str.ofString "age"),.bl true,.bl false])
  | .number=>∃ l,z=.ref l∧H l=some (.lst [.str (Str.ofString "number"),.bl true,.bl false])
  | .told v=>∃ t,z=.ref t∧H t=some (.tup [.int v])
theorem six {α:Type}:∀ {l:List α},l.length=6→∃ a b c d e f,l=[a,b,c,d,e,f]
  | [a,b,c,d,e,f],_=>⟨a,b,c,d,e,f,rfl⟩
section
variable {P:Program} {w:World} {K:PySem.W.Frag} {mg:Str→Option Value} {base:Heap}
def spWhl:Sp:=fun vs H Q _=>∃ n:Int,vs=[.int n]∧Q (.bl true) H
theorem scWhl:FnScope ["_law_found"] ["_law_found"] (defScope sWhl):=⟨rfl,rfl,rfl,by decide +kernel,rfl,by decide +kernel,by decide +kernel⟩
theorem ok_whl {f:Addr} {fd:FuncData} (F:Fun K "_law_whole" "_law_whole" sWhl f fd)
    (hint:mg "int" = none)
    (hisinstance:mg "isinstance" = none)
    (hbool:mg "bool" = none)
    : FnOk P w K mg base CX0 1 f fd ["_law_found"] spWhl:=by
  refine F.ok scWhl (fun vs H Q E h=>?_) (fun cdv A outer s H vs Q E hr h=>?_)
  · obtain ⟨n,rfl,_⟩:=h
    rfl
  · obtain ⟨n,rfl,k⟩:=h
    refine ⟨_,(pss_one (ps_ret (pe_and (pe_callB (call_isinstK K) (by rfl) hisinstance (show bootBuiltins "isinstance" = some (.builtin "isinstance") by decide +kernel) (pa_cons (pv 0) (pa_cons (pe_bltn (v:=.ty "int") (by rfl) hint (show bootBuiltins "int" = some (.type "int") by decide +kernel) rfl) pa_nil))) (pe_one (pe_not (pe_callB (call_isinstK K) (by rfl) hisinstance (show bootBuiltins "isinstance" = some (.builtin "isinstance") by decide +kernel) (pa_cons (pv 0) (pa_cons (pe_bltn (v:=.ty "bool") (by rfl) hbool (show bootBuiltins "bool" = some (.type "bool") by decide +kernel) rfl) pa_nil)))))))),?_⟩
    refine ⟨_,rfl,_,_,_,true,rfl,TyOf.int n,(by rfl),_,rfl,iteT ?_⟩
    exact ⟨_,rfl,_,_,_,false,rfl,TyOf.int n,(by rfl),_,rfl,k⟩
def spAsk (K:PySem.W.Frag):Sp:=fun vs H Q _=>∃ (zc zs za zn:V) (an:Ans),vs=[zc,zs,za,zn]∧AnsIn K H zc zs za zn an∧∀ z H',Same H H'→AnsAt H' z an→Q z H'
theorem scAsk:FnScope ["_law_c","_law_begins","_law_at_age","_law_number_here","_law_found","e"] ["_law_c","_law_begins","_law_at_age","_law_number_here"] (defScope sAsk):=⟨rfl,rfl,rfl,by decide +kernel,rfl,by decide +kernel,by decide +kernel⟩
theorem ok_ask {f fUnw fWhl:Addr} {fd fdUnw fdWhl:FuncData} (F:Fun K "_law_asked" "_law_asked" sAsk f fd)
    (GWhl:FnOk P w K mg base CX0 1 fWhl fdWhl ["_law_found"] spWhl)
    (gWhl:Gf K mg "_law_whole" fWhl fdWhl ["_law_found"])
    {cGrowError:Addr} (hGrowError:mg "GrowError" = some (.ref cGrowError)) (eGrowError:ClsK K cGrowError)
    {cNoAge:Addr} (hNoAge:mg "NoAge" = some (.ref cNoAge)) (eNoAge:ClsK K cNoAge)
    {cNoLetter:Addr} (hNoLetter:mg "NoLetter" = some (.ref cNoLetter)) (eNoLetter:ClsK K cNoLetter)
    {cNoNumber:Addr} (hNoNumber:mg "NoNumber" = some (.ref cNoNumber)) (eNoNumber:ClsK K cNoNumber)
    {cNoPlace:Addr} (hNoPlace:mg "NoPlace" = some (.ref cNoPlace)) (eNoPlace:ClsK K cNoPlace)
    {cTooLong:Addr} (hTooLong:mg "TooLong" = some (.ref cTooLong)) (eTooLong:ClsK K cTooLong)
    {cTooMany:Addr} (hTooMany:mg "TooMany" = some (.ref cTooMany)) (eTooMany:ClsK K cTooMany)
    (GUnw:FnOk P w K mg base (CX1 P w) 4 fUnw fdUnw ["c","starts","age","number"] (spUnwX K cNoAge cNoNumber))
    (gUnw:Gf K mg "unwound" fUnw fdUnw ["c","starts","age","number"])
    (hA0:PySem.W.mroIn K cNoAge (.ref cGrowError)=some true)
    (hA1:PySem.W.mroIn K cNoAge (.ref cNoAge)=some true)
    (hA2:PySem.W.mroIn K cNoAge (.ref cNoLetter)=some false)
    (hA3:PySem.W.mroIn K cNoAge (.ref cNoNumber)=some false)
    (hA4:PySem.W.mroIn K cNoAge (.ref cNoPlace)=some false)
    (hA5:PySem.W.mroIn K cNoAge (.ref cTooLong)=some false)
    (hA6:PySem.W.mroIn K cNoAge (.ref cTooMany)=some false)
    (hN0:PySem.W.mroIn K cNoNumber (.ref cGrowError)=some true)
    (hN1:PySem.W.mroIn K cNoNumber (.ref cNoAge)=some false)
    (hN2:PySem.W.mroIn K cNoNumber (.ref cNoLetter)=some false)
    (hN3:PySem.W.mroIn K cNoNumber (.ref cNoNumber)=some true)
    (hN4:PySem.W.mroIn K cNoNumber (.ref cNoPlace)=some false)
    (hN5:PySem.W.mroIn K cNoNumber (.ref cTooLong)=some false)
    (hN6:PySem.W.mroIn K cNoNumber (.ref cTooMany)=some false)
    (xA:ExcK K cNoAge) (xN:ExcK K cNoNumber)
    (hisinstance:mg "isinstance" = none)
    : FnOk P w K mg base CX0 5 f fd ["_law_c","_law_begins","_law_at_age","_law_number_here"] (spAsk K):=by
  refine F.ok scAsk (fun vs H Q E h=>?_) (fun cdv A outer s H vs Q E hr h=>?_)
  · obtain ⟨zc,zs,za,zn,an,rfl,_⟩:=h
    rfl
  · obtain ⟨zc,zs,za,zn,an,rfl,hA,k⟩:=h
    have hr1:Room 1 _:=hr.mono (by decide)
    refine ⟨_,(pss_cons (ps_try rfl rfl (fun _ _ _ hp=>(pss_one (ps_set (i:=4) scAsk.nd rfl (Or.inl rfl) (pe_call GUnw hr rfl gUnw.m gUnw.k gUnw.b .nil hp (pa_cons (pv 0) (pa_cons (pv 1) (pa_cons (pv 2) (pa_cons (pv 3) pa_nil)))))))) (phs_as (i:=5) K scAsk.nd rfl rfl rfl hNoAge eNoAge.cls eNoAge.nt eNoAge.bexc (fun _=>(pss_one (ps_ret (pe_lst (pa_cons pe_str (pa_cons (pe_callB (call_isExcK K PySem.F.attr_ValueError) (by rfl) hisinstance (show bootBuiltins "isinstance" = some (.builtin "isinstance") by decide +kernel) (pa_cons (pv 5) (pa_cons (pe_glob (v:=.ref cGrowError) (by rfl) hGrowError rfl) pa_nil))) (pa_cons (pe_callB (call_isExcTK K PySem.F.attr_ValueError) (by rfl) hisinstance (show bootBuiltins "isinstance" = some (.builtin "isinstance") by decide +kernel) (pa_cons (pv 5) (pa_cons (pe_tup (pa_cons (pe_glob (v:=.ref cNoNumber) (by rfl) hNoNumber rfl) (pa_cons (pe_glob (v:=.ref cNoLetter) (by rfl) hNoLetter rfl) (pa_cons (pe_glob (v:=.ref cNoPlace) (by rfl) hNoPlace rfl) (pa_cons (pe_glob (v:=.ref cTooLong) (by rfl) hTooLong rfl) (pa_cons (pe_glob (v:=.ref cTooMany) (by rfl) hTooMany rfl) pa_nil)))))) pa_nil))) pa_nil))))))) (phs_as (i:=5) K scAsk.nd rfl rfl rfl hNoNumber eNoNumber.cls eNoNumber.nt eNoNumber.bexc (fun _=>(pss_one (ps_ret (pe_lst (pa_cons pe_str (pa_cons (pe_callB (call_isExcK K PySem.F.attr_ValueError) (by rfl) hisinstance (show bootBuiltins "isinstance" = some (.builtin "isinstance") by decide +kernel) (pa_cons (pv 5) (pa_cons (pe_glob (v:=.ref cGrowError) (by rfl) hGrowError rfl) pa_nil))) (pa_cons (pe_callB (call_isExcTK K PySem.F.attr_ValueError) (by rfl) hisinstance (show bootBuiltins "isinstance" = some (.builtin "isinstance") by decide +kernel) (pa_cons (pv 5) (pa_cons (pe_tup (pa_cons (pe_glob (v:=.ref cNoAge) (by rfl) hNoAge rfl) (pa_cons (pe_glob (v:=.ref cNoLetter) (by rfl) hNoLetter rfl) (pa_cons (pe_glob (v:=.ref cNoPlace) (by rfl) hNoPlace rfl) (pa_cons (pe_glob (v:=.ref cTooLong) (by rfl) hTooLong rfl) (pa_cons (pe_glob (v:=.ref cTooMany) (by rfl) hTooMany rfl) pa_nil)))))) pa_nil))) pa_nil))))))) phs_nil)))
      (pss_cons (ps_if (pt_not (pt_val (pe_call GWhl hr1 rfl gWhl.m gWhl.k gWhl.b .nil pass0 (pa_cons (pv 4) pa_nil)))) (pss_one (ps_ret (pe_lst (pa_cons pe_str pa_nil)))) pss_nil)
      (pss_one (ps_ret (pe_tup (pa_cons (pv 4) pa_nil)))))),?_⟩
    have neA:∀ {C:Addr},PySem.W.mroIn K cNoAge (.ref C)=some false→cNoAge≠C:=fun h z=>by subst z;rw [hA1] at h;cases h
    have neN:∀ {C:Addr},PySem.W.mroIn K cNoNumber (.ref C)=some false→cNoNumber≠C:=fun h z=>by subst z;rw [hN3] at h;cases h
    refine ⟨_,rfl,_,rfl,_,rfl,_,rfl,zc,zs,za,zn,rfl,?_⟩
    cases an with
    | age =>
      obtain ⟨cs,ss,h1,b1,h2,hl,b2,hz⟩:=hA
      refine .inr ⟨cs,h1,b1,.inr ⟨ss,h2,hl,b2,.inl ⟨hz,fun H1 s1=>⟨cNoAge,rfl,fun σ' hl=>?_⟩⟩⟩⟩
      obtain ⟨a0,a1,a2,a3,a4,a5,rfl⟩:=six hl
      refine ⟨true,hA1,iteT fun e he=>?_⟩
      refine ⟨_,rfl,e,cNoAge,.ref cGrowError,true,rfl,upd_same,xA,.inl ⟨cGrowError,rfl,eGrowError.cls,eGrowError.ty,hA0,fun _=>rfl⟩,?_⟩
      refine ⟨_,rfl,szl (show 5≤1000 by decide),fun T hT=>?_⟩
      refine ⟨e,T,cNoAge,[cNoNumber,cNoLetter,cNoPlace,cTooLong,cTooMany],false,rfl,upd_in upd_same (ne_of_none upd_same hT),xA,upd_same,kit_none fun C hC=>?_,szl (show 3≤1000 by decide),fun L hL=>k _ _ (s1.trans ((Same.add he).trans ((Same.add hT).trans (Same.add hL)))) ⟨L,rfl,upd_same⟩⟩
      simp only [List.mem_cons,List.not_mem_nil,or_false] at hC
      rcases hC with rfl | rfl | rfl | rfl | rfl
      · exact ⟨neA hA3,eNoNumber.cls,eNoNumber.ty,hA3⟩
      · exact ⟨neA hA2,eNoLetter.cls,eNoLetter.ty,hA2⟩
      · exact ⟨neA hA4,eNoPlace.cls,eNoPlace.ty,hA4⟩
      · exact ⟨neA hA5,eTooLong.cls,eTooLong.ty,hA5⟩
      · exact ⟨neA hA6,eTooMany.cls,eTooMany.ty,hA6⟩
    | number =>
      rcases hA with hA | ⟨cs,h1,b1,hA | ⟨ss,h2,hl,b2,⟨n,rfl,hn⟩,hz⟩⟩
      case inl =>
        refine .inl ⟨hA,fun H1 s1=>⟨cNoNumber,rfl,fun σ' hl=>?_⟩⟩
        obtain ⟨a0,a1,a2,a3,a4,a5,rfl⟩:=six hl
        refine ⟨false,hN1,iteF ⟨true,hN3,iteT fun e he=>?_⟩⟩
        refine ⟨_,rfl,e,cNoNumber,.ref cGrowError,true,rfl,upd_same,xN,.inl ⟨cGrowError,rfl,eGrowError.cls,eGrowError.ty,hN0,fun _=>rfl⟩,?_⟩
        refine ⟨_,rfl,szl (show 5≤1000 by decide),fun T hT=>?_⟩
        refine ⟨e,T,cNoNumber,[cNoAge,cNoLetter,cNoPlace,cTooLong,cTooMany],false,rfl,upd_in upd_same (ne_of_none upd_same hT),xN,upd_same,kit_none fun C hC=>?_,szl (show 3≤1000 by decide),fun L hL=>k _ _ (s1.trans ((Same.add he).trans ((Same.add hT).trans (Same.add hL)))) ⟨L,rfl,upd_same⟩⟩
        simp only [List.mem_cons,List.not_mem_nil,or_false] at hC
        rcases hC with rfl | rfl | rfl | rfl | rfl
        · exact ⟨neN hN1,eNoAge.cls,eNoAge.ty,hN1⟩
        · exact ⟨neN hN2,eNoLetter.cls,eNoLetter.ty,hN2⟩
        · exact ⟨neN hN4,eNoPlace.cls,eNoPlace.ty,hN4⟩
        · exact ⟨neN hN5,eTooLong.cls,eTooLong.ty,hN5⟩
        · exact ⟨neN hN6,eTooMany.cls,eTooMany.ty,hN6⟩
      case inr.inl =>
        refine .inr ⟨cs,h1,b1,.inl ⟨hA,fun H1 s1=>⟨cNoNumber,rfl,fun σ' hl=>?_⟩⟩⟩
        obtain ⟨a0,a1,a2,a3,a4,a5,rfl⟩:=six hl
        refine ⟨false,hN1,iteF ⟨true,hN3,iteT fun e he=>?_⟩⟩
        refine ⟨_,rfl,e,cNoNumber,.ref cGrowError,true,rfl,upd_same,xN,.inl ⟨cGrowError,rfl,eGrowError.cls,eGrowError.ty,hN0,fun _=>rfl⟩,?_⟩
        refine ⟨_,rfl,szl (show 5≤1000 by decide),fun T hT=>?_⟩
        refine ⟨e,T,cNoNumber,[cNoAge,cNoLetter,cNoPlace,cTooLong,cTooMany],false,rfl,upd_in upd_same (ne_of_none upd_same hT),xN,upd_same,kit_none fun C hC=>?_,szl (show 3≤1000 by decide),fun L hL=>k _ _ (s1.trans ((Same.add he).trans ((Same.add hT).trans (Same.add hL)))) ⟨L,rfl,upd_same⟩⟩
        simp only [List.mem_cons,List.not_mem_nil,or_false] at hC
        rcases hC with rfl | rfl | rfl | rfl | rfl
        · exact ⟨neN hN1,eNoAge.cls,eNoAge.ty,hN1⟩
        · exact ⟨neN hN2,eNoLetter.cls,eNoLetter.ty,hN2⟩
        · exact ⟨neN hN4,eNoPlace.cls,eNoPlace.ty,hN4⟩
        · exact ⟨neN hN5,eTooLong.cls,eTooLong.ty,hN5⟩
        · exact ⟨neN hN6,eTooMany.cls,eTooMany.ty,hN6⟩
      case inr.inr =>
        refine .inr ⟨cs,h1,b1,.inr ⟨ss,h2,hl,b2,.inr ⟨n,rfl,hn,.inl ⟨hz,fun H1 s1=>⟨cNoNumber,rfl,fun σ' hl=>?_⟩⟩⟩⟩⟩
        obtain ⟨a0,a1,a2,a3,a4,a5,rfl⟩:=six hl
        refine ⟨false,hN1,iteF ⟨true,hN3,iteT fun e he=>?_⟩⟩
        refine ⟨_,rfl,e,cNoNumber,.ref cGrowError,true,rfl,upd_same,xN,.inl ⟨cGrowError,rfl,eGrowError.cls,eGrowError.ty,hN0,fun _=>rfl⟩,?_⟩
        refine ⟨_,rfl,szl (show 5≤1000 by decide),fun T hT=>?_⟩
        refine ⟨e,T,cNoNumber,[cNoAge,cNoLetter,cNoPlace,cTooLong,cTooMany],false,rfl,upd_in upd_same (ne_of_none upd_same hT),xN,upd_same,kit_none fun C hC=>?_,szl (show 3≤1000 by decide),fun L hL=>k _ _ (s1.trans ((Same.add he).trans ((Same.add hT).trans (Same.add hL)))) ⟨L,rfl,upd_same⟩⟩
        simp only [List.mem_cons,List.not_mem_nil,or_false] at hC
        rcases hC with rfl | rfl | rfl | rfl | rfl
        · exact ⟨neN hN1,eNoAge.cls,eNoAge.ty,hN1⟩
        · exact ⟨neN hN2,eNoLetter.cls,eNoLetter.ty,hN2⟩
        · exact ⟨neN hN4,eNoPlace.cls,eNoPlace.ty,hN4⟩
        · exact ⟨neN hN5,eTooLong.cls,eTooLong.ty,hN5⟩
        · exact ⟨neN hN6,eTooMany.cls,eTooMany.ty,hN6⟩
    | told v =>
      obtain ⟨cs,ss,h1,b1,h2,hl,b2,n,N,rfl,hn,rfl,h0,hN,rfl⟩:=hA
      refine .inr ⟨cs,h1,b1,.inr ⟨ss,h2,hl,b2,.inr ⟨n,rfl,hn,.inr ⟨N,rfl,h0,hN,fun H1 s1=>?_⟩⟩⟩⟩
      refine ⟨_,rfl,_,rfl,_,rfl,iteF ⟨_,rfl,szl (show 1≤1000 by decide),fun T nT=>k _ _ (s1.trans (Same.add nT)) ⟨T,rfl,upd_same⟩⟩⟩
end
end Lw
namespace Lw
open PySem L2
theorem dot_abs {ec e:Nat}:∀ (cs w:List Int),Bz ec cs→Bz e w→(dot cs w).natAbs≤cs.length * 2 ^ (ec+e)
  | [],w,_,_=>by rw [dot_nil_l];exact Nat.zero_le _
  | c :: cs,[],_,_=>by rw [dot_nil_r];exact Nat.zero_le _
  | c :: cs,x :: w,h1,h2=>by
    have ih:=dot_abs cs w (fun y hy=>h1 y (List.mem_cons_of_mem _ hy)) (fun y hy=>h2 y (List.mem_cons_of_mem _ hy))
    have a:=h1 c List.mem_cons_self
    have b:=h2 x List.mem_cons_self
    have hm:(c * x).natAbs≤2 ^ (ec+e):=by
      rw [Int.natAbs_mul,Nat.pow_add]
      exact Nat.mul_le_mul (Nat.le_of_lt a) (Nat.le_of_lt b)
    rw [dot_cons,List.length_cons,Nat.succ_mul]
    have:=Int.natAbs_add_le (c * x) (dot cs w)
    omega
theorem dot_lt {ec e:Nat} {cs w:List Int} (h1:Bz ec cs) (h2:Bz e w) (hl:cs.length≤16):(dot cs w).natAbs < 2 ^ (e+(ec+5)):=by
  have h:=dot_abs cs w h1 h2
  have h3:cs.length * 2 ^ (ec+e)≤16 * 2 ^ (ec+e):=Nat.mul_le_mul_right _ hl
  have h4:16 * 2 ^ (ec+e) < 32 * 2 ^ (ec+e):=Nat.mul_lt_mul_of_pos_right (by decide) (Nat.pow_pos (by decide))
  have e5:2 ^ (e+(ec+5))=32 * 2 ^ (ec+e):=by
    rw [show e+(ec+5)=5+(ec+e) by omega,Nat.pow_add]
  omega
theorem wn_bz {ec e:Nat} {cs ss:List Int} (h1:Bz ec cs) (h2:Bz e ss) (hl:cs.length≤16):∀ k,Bz (e+(ec+5) * k) (wn cs ss k)
  | 0=>by rw [Nat.mul_zero];exact h2
  | k+1=>by
    have ih:=wn_bz h1 h2 hl k
    have ee:e+(ec+5) * (k+1)=e+(ec+5) * k+(ec+5):=by rw [Nat.mul_succ];omega
    intro x hx
    rw [ee]
    rcases List.mem_append.mp (show x∈(wn cs ss k).tail++[dot cs (wn cs ss k)] from hx) with h | h
    · exact Nat.lt_of_lt_of_le (ih x (List.mem_of_mem_tail h)) (Nat.pow_le_pow_right (by decide) (by omega))
    · rw [List.mem_singleton.mp h]
      exact dot_lt h1 ih hl
theorem xN_lt {ec e:Nat} {cs ss:List Int} (h1:Bz ec cs) (h2:Bz e ss) (hl:cs.length≤16) (k:Nat):(xN cs ss k).natAbs < 2 ^ (e+(ec+5) * k):=by
  have h:=wn_bz h1 h2 hl k
  unfold xN
  cases z:wn cs ss k with
  | nil=>exact Nat.pow_pos (by decide)
  | cons a r=>rw [z] at h;exact h a List.mem_cons_self
theorem first_eq {cs ss:List Int} (h:ss.length=cs.length) (h0:0 < cs.length):ss=(List.range cs.length).map (xN cs ss):=by
  have:=wn_eq h h0 0
  have e:(List.range cs.length).map (fun i=>xN cs ss (0+i))=(List.range cs.length).map (xN cs ss):=List.map_congr_left fun i _=>by rw [Nat.zero_add]
  rw [e] at this
  exact this
theorem pow_sq (b N:Int) (t:Nat):N ∣ (b * b % N) ^ (t / 2) * (if t % 2=1 then b else 1) - b ^ t:=by
  have h1:N ∣ (b * b % N) ^ (t / 2) - (b * b) ^ (t / 2):=by
    generalize t / 2=q
    induction q with
    | zero=>rw [Int.pow_zero,Int.pow_zero,Int.sub_self];exact Int.dvd_zero _
    | succ q ih =>
      have e:(b * b % N) ^ (q+1) - (b * b) ^ (q+1)=((b * b % N) ^ q - (b * b) ^ q) * (b * b % N)+(b * b) ^ q * (b * b % N - b * b):=by
        rw [Int.pow_succ,Int.pow_succ,Int.sub_mul,Int.mul_sub]
        omega
      rw [e]
      refine Int.dvd_add (Int.dvd_trans ih (Int.dvd_mul_right _ _)) (Int.dvd_trans ?_ (Int.dvd_mul_left _ _))
      have:=Int.emod_add_mul_ediv (b * b) N
      refine ⟨-((b * b) / N),?_⟩
      rw [Int.mul_neg]
      omega
  have h2:b ^ t=(b * b) ^ (t / 2) * (if t % 2=1 then b else 1):=by
    have e2:(b * b) ^ (t / 2)=b ^ (2 * (t / 2)):=by rw [Int.pow_mul,Int.pow_succ,Int.pow_succ,Int.pow_zero,Int.one_mul]
    rw [e2]
    split
    · rename_i h
      rw [← Int.pow_succ]
      congr 1
      omega
    · rename_i h
      rw [Int.mul_one]
      congr 1
      omega
  rw [h2,← Int.sub_mul]
  exact Int.dvd_trans h1 (Int.dvd_mul_right _ _)
theorem pow_turn {b f N:Int} {t:Nat} {g:Int} (hg:N ∣ f * b ^ t - g):N ∣ (if t % 2=1 then f * b % N else f) * (b * b % N) ^ (t / 2) - g:=by
  have h:=pow_sq b N t
  by_cases ho:t % 2=1
  · rw [if_pos ho] at h ⊢
    have e:f * b % N * (b * b % N) ^ (t / 2) - g=(f * b % N - f * b) * (b * b % N) ^ (t / 2)+f * ((b * b % N) ^ (t / 2) * b - b ^ t)+(f * b ^ t - g):=by
      rw [Int.sub_mul,Int.mul_sub,Int.mul_assoc f b,Int.mul_comm b ((b * b % N) ^ (t / 2))]
      omega
    rw [e]
    refine Int.dvd_add (Int.dvd_add (Int.dvd_trans ?_ (Int.dvd_mul_right _ _)) (Int.dvd_trans h (Int.dvd_mul_left _ _))) hg
    have:=Int.emod_add_mul_ediv (f * b) N
    refine ⟨-((f * b) / N),?_⟩
    rw [Int.mul_neg]
    omega
  · rw [if_neg ho] at h ⊢
    rw [Int.mul_one] at h
    have e:f * (b * b % N) ^ (t / 2) - g=f * ((b * b % N) ^ (t / 2) - b ^ t)+(f * b ^ t - g):=by
      rw [Int.mul_sub]
      omega
    rw [e]
    exact Int.dvd_add (Int.dvd_trans h (Int.dvd_mul_left _ _)) hg
theorem rnd_dot {c0:Int} {n:Nat} {w:List Int} (h:0 < w.length):dot (c0 :: List.replicate n 0) w=c0 * w.headD 0:=by
  cases w with
  | nil=>simp at h
  | cons a r=>rw [dot_cons,dot_zeros];show c0 * a+0=c0 * a;omega
theorem rnd_val {c0:Int} {ss:List Int} {n:Nat} (hs:ss.length=n+1):∀ (q r:Nat),xN (c0 :: List.replicate n 0) ss (q * (n+1)+r)=c0 ^ q * xN (c0 :: List.replicate n 0) ss r
  | 0,r=>by rw [Nat.zero_mul,Nat.zero_add,Int.pow_zero,Int.one_mul]
  | q+1,r=>by
    have hl:(c0 :: List.replicate n (0:Int)).length=n+1:=by rw [List.length_cons,List.length_replicate]
    have h:=xN_rec (cs:=c0 :: List.replicate n 0) (ss:=ss) (by rw [hl];exact hs) (by rw [hl];omega) (q * (n+1)+r)
    rw [rnd_dot (by rw [wn_len (by rw [hl];exact hs) (by rw [hl];omega),hl];omega),hl] at h
    have e:(q+1) * (n+1)+r=q * (n+1)+r+(n+1):=by rw [Nat.succ_mul];omega
    rw [e,h]
    show c0 * xN _ ss (q * (n+1)+r)=_
    rw [rnd_val hs q r,Int.pow_succ,← Int.mul_assoc,Int.mul_comm c0]
theorem dot_emod (N:Int):∀ (cs w:List Int),dot cs (w.map fun x=>x % N) % N=dot cs w % N
  | [],w=>by rw [dot_nil_l,dot_nil_l]
  | c :: cs,[]=>rfl
  | c :: cs,x :: w=>by
    rw [List.map_cons,dot_cons,dot_cons,Int.add_emod,dot_emod N cs w,Int.mul_emod,Int.emod_emod,← Int.mul_emod,← Int.add_emod]
theorem great_val {cs ss:List Int} {N:Int} (h:ss.length=cs.length) (m:Nat):dot cs ((List.range cs.length).map fun i=>xN cs ss (m+i) % N) % N=xN cs ss (m+cs.length) % N:=by
  by_cases h0:0 < cs.length
  · have e:((List.range cs.length).map fun i=>xN cs ss (m+i) % N)=(wn cs ss m).map fun x=>x % N:=by rw [wn_eq h h0,List.map_map];rfl
    rw [e,dot_emod,xN_rec h h0]
  · have hc:cs=[]:=List.length_eq_zero_iff.mp (by omega)
    subst hc
    have hs:ss=[]:=List.length_eq_zero_iff.mp h
    subst hs
    rw [xN_nil,dot_nil_l]
end Lw
namespace Lw
open PySem L2 PyProof.Rows
theorem seq_by {a u:L2.TS} {D:Ends} {σ:L2.St} {H:Hp} (Inv:L2.St→Hp→Prop) (h:∀ nx:L2.St→Hp→Prop,(∀ σ' H',Inv σ' H'→nx σ' H')→a { D with nx:=nx } σ H) (k:∀ σ' H',Inv σ' H'→u D σ' H'):tSeq a u D σ H:=h _ k
theorem rng_get {n i:Nat} {y:V} (h:(rngV 0 n)[i]? = some y):i < n∧y=.int (i:Int):=by
  have hi:=(List.getElem?_eq_some_iff.mp h).1
  rw [rngV_length] at hi
  refine ⟨hi,?_⟩
  unfold rngV at h
  rw [List.getElem?_map,List.getElem?_range hi] at h
  have:=Option.some.inj h
  rw [← this]
  show V.int (0+(i:Int))=_
  rw [Int.zero_add]
theorem PenAt.sm {H H':Hp} {p:Addr} {b:Nat} (h:PenAt H p b) (s:Same H H'):PenAt H' p b:=by
  obtain ⟨a,n,f,e,h1⟩:=h.ex
  exact ⟨a,n,f,s _ _ e,h1⟩
theorem PenAt.other {H H':Hp} {p:Addr} {b:Nat} (h:PenAt H p b) (e:H' p=H p):PenAt H' p b:=by
  obtain ⟨a,n,f,e1,r⟩:=h.ex
  exact ⟨a,n,f,e.trans e1,r⟩
theorem p60:(1000000000000000000000000000000000000000000000000000000000000:Nat) < 2 ^ 200:=by decide +kernel
section
variable {P:Program} {w:World} {K:PySem.W.Frag} {mg:Str→Option Value} {base:Heap}
def spSgn:Sp:=fun vs H Q _=>∃ (p:Addr) (b:Nat) (g:Bool),vs=[.ref p,.bl g]∧PenAt H p b∧b≤900000∧∀ (v:Int) H',v.natAbs < 2 ^ 200→PenAt H' p (b+2)→(∀ c,c≠p→H' c=H c)→Q (.int v) H'
theorem scSgn:FnScope ["_law_pen_here","_law_great_here","_law_size","_law_found"] ["_law_pen_here","_law_great_here"] (defScope sSgn):=⟨rfl,rfl,rfl,by decide +kernel,rfl,by decide +kernel,by decide +kernel⟩
theorem ok_sgn {f fTak:Addr} {fd fdTak:FuncData} (F:Fun K "_law_signed" "_law_signed" sSgn f fd)
    (GTak:FnOk P w K mg base CX0 1 fTak fdTak ["_law_pen_here","_law_size"] spTak)
    (gTak:Gf K mg "_law_take" fTak fdTak ["_law_pen_here","_law_size"])
    : FnOk P w K mg base CX0 2 f fd ["_law_pen_here","_law_great_here"] spSgn:=by
  refine F.ok scSgn (fun vs H Q E h=>?_) (fun cdv A outer s H vs Q E hr h=>?_)
  · obtain ⟨p,b,g,rfl,_⟩:=h
    rfl
  · obtain ⟨p,b,g,rfl,hP,hb,k⟩:=h
    refine ⟨_,(pss_cons (ps_set (i:=2) scSgn.nd rfl (Or.inl rfl) pe_int)
      (pss_cons (ps_if (pt_val (pv 1)) (pss_one (ps_set (i:=2) scSgn.nd rfl (Or.inl rfl) (pe_op op_pow pe_int pe_int))) pss_nil)
      (pss_cons (ps_set (i:=3) scSgn.nd rfl (Or.inl rfl) (pe_call GTak hr rfl gTak.m gTak.k gTak.b .nil pass0 (pa_cons (pv 0) (pa_cons pe_int pa_nil))))
      (pss_cons (ps_if (pt_val (pv 1)) (pss_one (ps_set (i:=3) scSgn.nd rfl (Or.inl rfl) (pe_op op_pow (pv 3) pe_int))) pss_nil)
      (pss_cons (ps_set (i:=3) scSgn.nd rfl (Or.inl rfl) (pe_op op_mod (pv 3) (pv 2)))
      (pss_cons (ps_if (pt_cmpR op_eq (pe_call GTak hr rfl gTak.m gTak.k gTak.b .nil pass0 (pa_cons (pv 0) (pa_cons pe_int pa_nil))) pe_int (nomark _)) (pss_one (ps_ret (pe_un un_neg (pv 3)))) pss_nil)
      (pss_one (ps_ret (pv 3))))))))),?_⟩
    rw [tSeq]
    dsimp only [tAsg,tC,gName]
    refine seq_by (fun σ H'=>∃ sz:Int,σ=[some (.ref p),some (.bl g),some (.int sz),none]∧H'=H∧0 < sz∧sz≤1000000000000000000000000000000000000000000000000000000000000) (fun nx hnx=>?_) ?_
    · refine ⟨_,rfl,_,rfl,ite2 (fun hc=>?_) (fun hc=>hnx _ _ ⟨7,rfl,rfl,by decide,by decide⟩)⟩
      exact ⟨_,_,rfl,rfl,⟨by decide,by decide,by decide⟩,hnx _ _ ⟨(10:Int) ^ Int.toNat 60,rfl,rfl,by rw [ten60];decide,by rw [ten60];decide⟩⟩
    rintro σ H0 ⟨sz,rfl,rfl,z0,z1⟩
    refine ⟨_,rfl,p,b,2147483000,rfl,hP,by omega,by decide,by decide,fun z H1 y0 y1 hP1 e1=>?_⟩
    dsimp only [gName]
    refine seq_by (fun σ H'=>∃ f:Int,σ=[some (.ref p),some (.bl g),some (.int sz),some (.int f)]∧H'=H1) (fun nx hnx=>?_) ?_
    · refine ⟨_,rfl,_,rfl,ite2 (fun hc=>?_) (fun hc=>hnx _ _ ⟨z,rfl,rfl⟩)⟩
      exact ⟨_,rfl,_,_,rfl,rfl,⟨by decide,by decide,by omega⟩,hnx _ _ ⟨_,rfl,rfl⟩⟩
    rintro σ H2 ⟨f',rfl,rfl⟩
    have m0:=Int.emod_nonneg f' (show sz≠0 by omega)
    have m1:=Int.emod_lt_of_pos f' z0
    refine ⟨_,rfl,_,rfl,_,_,rfl,rfl,z0,?_⟩
    refine ⟨_,rfl,p,_,2,rfl,hP1,by omega,by decide,by decide,fun z2 H3 y20 y21 hP3 e3=>⟨rfl,_,rfl,?_⟩⟩
    have:=p60
    refine ite2 (fun hc=>?_) (fun hc=>?_)
    · exact ⟨_,rfl,_,rfl,k _ _ (by omega) hP3 fun c hc=>(e3 c hc).trans (e1 c hc)⟩
    · exact ⟨_,rfl,k _ _ (by omega) hP3 fun c hc=>(e3 c hc).trans (e1 c hc)⟩
def spNum:Sp:=fun vs H Q _=>∃ (p:Addr) (b:Nat),vs=[.ref p]∧PenAt H p b∧b≤900000∧∀ (v:Int) H',0 < v→v < 1000000000000000000000000000000→But p H H'→Q (.int v) H'
theorem scNum:FnScope ["_law_pen_here","_law_pick"] ["_law_pen_here"] (defScope sNum):=⟨rfl,rfl,rfl,by decide +kernel,rfl,by decide +kernel,by decide +kernel⟩
theorem ok_num {f fTak:Addr} {fd fdTak:FuncData} (F:Fun K "_law_number" "_law_number" sNum f fd)
    (GTak:FnOk P w K mg base CX0 1 fTak fdTak ["_law_pen_here","_law_size"] spTak)
    (gTak:Gf K mg "_law_take" fTak fdTak ["_law_pen_here","_law_size"])
    : FnOk P w K mg base CX0 2 f fd ["_law_pen_here"] spNum:=by
  refine F.ok scNum (fun vs H Q E h=>?_) (fun cdv A outer s H vs Q E hr h=>?_)
  · obtain ⟨p,b,rfl,_⟩:=h
    rfl
  · obtain ⟨p,b,rfl,hP,hb,k⟩:=h
    refine ⟨_,(pss_cons (ps_set (i:=1) scNum.nd rfl (Or.inl rfl) (pe_call GTak hr rfl gTak.m gTak.k gTak.b .nil pass0 (pa_cons (pv 0) (pa_cons pe_int pa_nil))))
      (pss_cons (ps_if (pt_cmpR op_lt (pv 1) pe_int (nomark _)) (pss_one (ps_ret (pe_ix (ix_listK K) (pe_lst (pa_cons pe_int (pa_cons pe_int (pa_cons (pe_op op_sub (pe_op op_pow pe_int pe_int) pe_int) pa_nil)))) (pv 1) (fun _ _=>rfl)))) pss_nil)
      (pss_one (ps_ret (pe_op op_add pe_int (pe_op op_mod (pe_op op_pow (pe_call GTak hr rfl gTak.m gTak.k gTak.b .nil pass0 (pa_cons (pv 0) (pa_cons pe_int pa_nil))) pe_int) (pe_op op_sub (pe_op op_pow pe_int pe_int) pe_int))))))),?_⟩
    refine ⟨_,rfl,p,b,4,rfl,hP,by omega,by decide,by decide,fun z H1 y0 y1 hP1 e1=>?_⟩
    refine ⟨_,rfl,_,_,rfl,rfl,_,rfl,ite2 (fun hc=>?_) (fun hc=>?_)⟩
    · have h3:z < 3:=of_decide_eq_true hc
      refine ⟨_,_,rfl,rfl,⟨by decide,by decide,by decide⟩,_,_,rfl,rfl,szl (show 3≤1000 by decide),fun L nL=>?_⟩
      rw [ten30]
      obtain ⟨m,rfl⟩:∃ m:Nat,z=(m:Int):=⟨z.toNat,by omega⟩
      obtain ⟨v,hv,v0,v1⟩:∃ v:Int,([V.int 1,V.int 2,V.int (1000000000000000000000000000000 - 1)]:List V)[m]? = some (V.int v)∧0 < v∧v < 1000000000000000000000000000000:=by
        match m,h3 with
        | 0,_=>exact ⟨1,rfl,by decide,by decide⟩
        | 1,_=>exact ⟨2,rfl,by decide,by decide⟩
        | 2,_=>exact ⟨_,rfl,by decide,by decide⟩
        | m+3,h=>omega
      exact ⟨_,rfl,L,_,_,_,rfl,rfl,SqL.of upd_same,atI_nat hv,k v _ v0 v1 (fun c o h n=>Same.add nL _ _ ((e1 c n).trans h))⟩
    · refine ⟨_,rfl,p,_,2147483000,rfl,hP1,by omega,by decide,by decide,fun z2 H2 y20 y21 hP2 e2=>?_⟩
      refine ⟨_,_,rfl,rfl,⟨by decide,by decide,by omega⟩,_,_,rfl,rfl,⟨by decide,by decide,by decide⟩,_,_,rfl,rfl,?_⟩
      rw [ten30]
      refine ⟨_,_,rfl,rfl,(show (0:Int) < 1000000000000000000000000000000 - 1 by decide),?_⟩
      generalize z2 ^ Int.toNat 4=q
      have m0:=Int.emod_nonneg q (show (1000000000000000000000000000000 - 1:Int)≠0 by decide)
      have m1:=Int.emod_lt_of_pos q (show (0:Int) < 1000000000000000000000000000000 - 1 by decide)
      exact ⟨_,_,rfl,rfl,k _ _ (by omega) (by omega) fun c o h n=>(e2 c n).trans ((e1 c n).trans h)⟩
end
end Lw
namespace Lw
open PySem L2 PyProof.Rows
section
variable {P:Program} {w:World} {K:PySem.W.Frag} {mg:Str→Option Value} {base:Heap}
def spDue:Sp:=fun vs H Q _=>∃ (c s:Addr) (cs ss:List Int) (n:Nat) (N:Int),vs=[.ref c,.ref s,.int (n:Int),.int N]∧H c=some (.lst (cs.map V.int))∧H s=some (.lst (ss.map V.int))∧ss.length=cs.length∧cs.length≤16∧Bz 200 cs∧Bz 1000 ss∧n≤100∧0 < N∧∀ H',Same H H'→Q (.int (xN cs ss n % N)) H'
theorem scDue:FnScope ["_law_c","_law_begins","_law_at_age","_law_number_here","_law_line","_law_k"] ["_law_c","_law_begins","_law_at_age","_law_number_here"] (defScope sDue):=⟨rfl,rfl,rfl,by decide +kernel,rfl,by decide +kernel,by decide +kernel⟩
theorem nd_due1:(["_law_i","_law_c","_law_line","_law_k"]:List Str).Nodup:=by decide +kernel
theorem ok_due {f:Addr} {fd:FuncData} (F:Fun K "_law_due" "_law_due" sDue f fd)
    (hlen:mg "len" = none)
    (hrange:mg "range" = none)
    (hsum:mg "sum" = none)
    (hlist:mg "list" = none)
    : FnOk P w K mg base CX0 1 f fd ["_law_c","_law_begins","_law_at_age","_law_number_here"] spDue:=by
  refine F.ok scDue (fun vs H Q E h=>?_) (fun cdv A outer s H vs Q E hr h=>?_)
  · obtain ⟨c,s0,cs,ss,n,N,rfl,_⟩:=h
    rfl
  · obtain ⟨c,s0,cs,ss,n,N,rfl,hc,hs,hl,h16,bc,bs,hn,hN,k⟩:=h
    refine ⟨_,(pss_cons (ps_set (i:=4) scDue.nd rfl (Or.inr rfl) (pe_callTy (call_list_ofK K) (by rfl) hlist (by first | exact PySem.boot_list | decide +kernel) (pa_cons (pv 1) pa_nil)))
      (pss_cons (ps_if (pt_cmpR op_eq (pe_callB (call_lenK K) (by rfl) hlen PySem.boot_len (pa_cons (pv 0) pa_nil)) pe_int (nomark _)) (pss_one (ps_ret pe_int)) pss_nil)
      (pss_cons (ps_for PassesOwn.never rfl (pi_range1 rfl hrange (pa_cons (pe_op op_sub (pe_op op_add (pv 2) pe_int) (pe_callB (call_lenK K) (by rfl) hlen PySem.boot_len (pa_cons (pv 0) pa_nil))) pa_nil)) (pg_name (i:=5) scDue.nd rfl (Or.inr rfl)) (pss_one (ps_expr (pe_bmK K PySem.F.plainAttrs_list PySem.F.slot_list_append PySem.F.type_list_append mt_append (pv 4) (pa_cons (pe_callB (call_sumK2 K rfl) (by rfl) hsum (by first | exact PySem.boot_sum | decide +kernel) (pa_cons (pe_comp (N':=["_law_i","_law_c","_law_line","_law_k"]) (ix:=[none,some 0,some 4,some 5]) rfl rfl (pi_range1 rfl hrange (pa_cons (pe_callB (call_lenK K) (by rfl) hlen PySem.boot_len (pa_cons (pv 0) pa_nil)) pa_nil)) (fun _ _ _ _ _ _=>(pg_name (i:=0) nd_due1 rfl (Or.inl rfl))) (fun _ _ _ _ _ _=>pts_nil) (fun _ _ _ _ _ _=>(pe_op op_mulB (pe_ix (ix_listK K) (pv 1) (pv 0) (fun _ _=>rfl)) (pe_ix (ix_listK K) (pv 2) (pe_op op_add (pv 3) (pv 0)) (fun _ _=>rfl))))) pa_nil)) pa_nil)))))
      (pss_one (ps_ret (pe_op op_mod (pe_ix (ix_listK K) (pv 4) (pv 2) (fun _ _=>rfl)) (pv 3))))))),?_⟩
    have ec:(cs.map V.int).length=cs.length:=List.length_map _
    refine ⟨_,rfl,s0,_,rfl,.inl (SqL.of hs),fun l nl=>?_⟩
    have s1:=Same.add (o:=.lst (ss.map V.int)) nl
    have hl1:upd H l (.lst (ss.map V.int)) l=some (.lst (ss.map V.int)):=upd_same
    revert s1 hl1
    generalize upd H l (.lst (ss.map V.int))=H1
    intro s1 hl1
    refine ⟨_,rfl,c,_,rfl,.inl (SqL.of (s1 _ _ hc)),rfl,_,rfl,ite2 (fun h0=>?_) (fun h0=>?_)⟩
    · have hz:(((cs.map V.int).length:Nat):Int)=0:=V.int.inj (of_decide_eq_true h0)
      rw [ec] at hz
      have e1:cs=[]:=List.length_eq_zero_iff.mp (by omega)
      subst e1
      have e2:ss=[]:=List.length_eq_zero_iff.mp hl
      subst e2
      have:=k H1 s1
      rw [xN_nil,Int.zero_emod] at this
      exact this
    have hpos:0 < cs.length:=by
      by_cases h:0 < cs.length
      · exact h
      · exact absurd (decide_eq_true (show V.int (((cs.map V.int).length:Nat):Int)=V.int 0 by rw [ec,show cs.length=0 by omega];rfl)) h0
    obtain ⟨m,hm⟩:∃ m:Nat,((n:Int)+1 - (cs.length:Int)).toNat=m:=⟨_,rfl⟩
    refine ⟨_,rfl,_,_,rfl,rfl,_,rfl,c,_,rfl,.inl (SqL.of (s1 _ _ hc)),_,_,rfl,rfl,_,rfl,by rw [ec];omega,by rw [ec];omega,?_⟩
    rw [ec,hm]
    refine for_by (sure_range (lo:=0) (n:=m)) (fun i σ H2=>∃ v5:Option V,σ=[some (.ref c),some (.ref s0),some (.int (n:Int)),some (.int N),some (.ref l),v5]∧Same H H2∧H2 l=some (.lst (((List.range (cs.length+i)).map (xN cs ss)).map V.int)))
      ⟨_,rfl,s1,by rw [hl1,Nat.add_zero,← first_eq hl hpos]⟩ (fun _ _ _ _ _=>trivial) ?_ ?_
    · rintro i y σ H2 hy ⟨v5,rfl,s2,hl2⟩
      obtain ⟨hi,rfl⟩:=rng_get hy
      have hin:i≤100:=by omega
      refine ⟨_,rfl,.inl ⟨rfl,_,SqL.of hl2⟩,_,rfl,c,_,rfl,.inl (SqL.of (s2 _ _ hc)),_,rfl,by rw [ec];omega,by rw [ec];omega,?_⟩
      rw [ec,Int.toNat_natCast]
      have el:(((List.range (cs.length+i)).map (xN cs ss)).map V.int).length=cs.length+i:=by rw [List.length_map,List.length_map,List.length_range]
      refine comp_allR (τ0:=[none,some (.ref c),some (.ref l),some (.int (i:Int))]) (sure_range (lo:=0) (n:=cs.length)) (by rw [rngV_length];omega)
        (fun j ys τ H3=>H3=H2∧(∃ v,τ=[v,some (.ref c),some (.ref l),some (.int (i:Int))])∧ys=((List.zipWith (· * ·) cs (wn cs ss i)).take j).map V.int) ⟨rfl,⟨_,rfl⟩,rfl⟩ ?_ ?_ ?_
      · rintro j ys τ H3 hj ⟨rfl,_,rfl⟩
        exact ⟨trivial,by rw [List.length_map,List.length_take];omega⟩
      · rintro j y ys τ H3 hy ⟨rfl,⟨v,rfl⟩,rfl⟩
        obtain ⟨hj,rfl⟩:=rng_get hy
        have g1:(cs.map V.int)[j]? = some (V.int cs[j]):=by rw [List.getElem?_map,List.getElem?_eq_getElem hj];rfl
        have g2:(((List.range (cs.length+i)).map (xN cs ss)).map V.int)[i+j]? = some (V.int (xN cs ss (i+j))):=by
          rw [List.getElem?_map,List.getElem?_map,List.getElem?_range (by omega)]
          rfl
        have k1:=bits20 (bc _ (List.getElem_mem hj)) (by decide)
        have k2:=bits20 (xN_lt bc bs h16 (i+j)) (by omega)
        refine ⟨_,rfl,_,rfl,c,_,_,_,rfl,rfl,SqL.of (s2 _ _ hc),atI_nat g1,_,rfl,_,rfl,_,rfl,_,_,rfl,rfl,l,_,_,_,rfl,rfl,SqL.of hl2,atI_nat (j:=i+j) g2,_,_,rfl,rfl,⟨k1,k2⟩,rfl,⟨_,rfl⟩,?_⟩
        have g3:(List.zipWith (· * ·) cs (wn cs ss i))[j]? = some (cs[j] * xN cs ss (i+j)):=by rw [List.getElem?_zipWith,List.getElem?_eq_getElem hj,wn_get hl hpos j i hj]
        rw [List.take_add_one,g3,List.map_append]
        rfl
      · rintro ys τ H3 D ⟨rfl,_,rfl⟩ nD
        have hzl:(List.zipWith (· * ·) cs (wn cs ss i)).length=cs.length:=by rw [List.length_zipWith,wn_len hl hpos];omega
        rw [rngV_length,List.take_of_length_le (by omega)]
        have sD:=Same.add (o:=.lst ((List.zipWith (· * ·) cs (wn cs ss i)).map V.int)) nD
        refine ⟨D,_,rfl,SqL.of upd_same,l,_,_,rfl,rfl,sD _ _ hl2,szl (by rw [el];omega),_,rfl,same_upd (s2.trans sD) nl,?_⟩
        rw [upd_same]
        congr 2
        have e9:(List.zipWith (· * ·) cs (wn cs ss i)).sum=xN cs ss (cs.length+i):=by rw [Nat.add_comm,xN_rec hl hpos];rfl
        rw [e9,← Nat.add_assoc,List.range_succ,List.map_append,List.map_append]
        rfl
    · rintro σ H2 ⟨v5,rfl,s2,hl2⟩
      rw [rngV_length] at hl2
      have g2:(((List.range (cs.length+m)).map (xN cs ss)).map V.int)[n]? = some (V.int (xN cs ss n)):=by
        rw [List.getElem?_map,List.getElem?_map,List.getElem?_range (by omega)]
        rfl
      exact ⟨_,rfl,_,rfl,l,_,_,_,rfl,rfl,SqL.of hl2,atI_nat g2,_,rfl,_,_,rfl,rfl,hN,k H2 s2⟩
def spPow:Sp:=fun vs H Q _=>∃ (b:Int) (t:Nat) (N:Int),vs=[.int b,.int (t:Int),.int N]∧b.natAbs < 2 ^ 200∧0 < N∧N < 1000000000000000000000000000000∧∀ (f:Int),N ∣ f - b ^ t→f.natAbs < 2 ^ 100→Q (.int f) H
theorem scPow:FnScope ["_law_base","_law_times","_law_number_here","_law_found"] ["_law_base","_law_times","_law_number_here"] (defScope sPow):=⟨rfl,rfl,rfl,by decide +kernel,rfl,by decide +kernel,by decide +kernel⟩
theorem ok_pow {f:Addr} {fd:FuncData} (F:Fun K "_law_power" "_law_power" sPow f fd)
    : FnOk P w K mg base CX0 1 f fd ["_law_base","_law_times","_law_number_here"] spPow:=by
  refine F.ok scPow (fun vs H Q E h=>?_) (fun cdv A outer s H vs Q E hr h=>?_)
  · obtain ⟨b,t,N,rfl,_⟩:=h
    rfl
  · obtain ⟨b,t,N,rfl,hb,h0,hN,k⟩:=h
    refine ⟨_,(pss_cons (ps_set (i:=3) scPow.nd rfl (Or.inl rfl) pe_int)
      (pss_cons (ps_while PassesOwn.never (pt_cmpR op_gt (pv 1) pe_int (nomark _)) (pss_cons (ps_if (pt_cmpR op_eq (pe_op op_mod (pv 1) pe_int) pe_int (nomark _)) (pss_one (ps_set (i:=3) scPow.nd rfl (Or.inl rfl) (pe_op op_mod (pe_op op_mulB (pv 3) (pv 0)) (pv 2)))) pss_nil)
      (pss_cons (ps_set (i:=0) scPow.nd rfl (Or.inl rfl) (pe_op op_mod (pe_op op_mulB (pv 0) (pv 0)) (pv 2)))
      (pss_one (ps_set (i:=1) scPow.nd rfl (Or.inl rfl) (pe_op op_fdivB (pv 1) pe_int))))))
      (pss_one (ps_ret (pv 3))))),?_⟩
    have h30:(1000000000000000000000000000000:Nat) < 2 ^ 100:=by decide +kernel
    have h12:(2:Nat) ^ 100 < 2 ^ 200:=by decide +kernel
    rw [tSeq]
    dsimp only [tAsg,tC,gName]
    rw [tSeq]
    refine ⟨fun m σ H2=>H2=H∧∃ (bb ff:Int),σ=[some (.int bb),some (.int (m:Int)),some (.int N),some (.int ff)]∧N ∣ ff * bb ^ m - b ^ t∧bb.natAbs < 2 ^ 200∧ff.natAbs < 2 ^ 100,⟨t,rfl,b,1,rfl,by rw [Int.one_mul,Int.sub_self];exact Int.dvd_zero _,hb,by decide⟩,?_⟩
    rintro m σ H2 ⟨rfl,bb,ff,rfl,hd,hb2,hf2⟩
    refine ⟨_,rfl,_,_,rfl,rfl,_,rfl,ite2 (fun hc=>?_) (fun hc=>?_)⟩
    · have hm:(0:Int) < (m:Int):=of_decide_eq_true hc
      refine ⟨fun σ' H'=>∃ m',m' < m∧H'=H2∧∃ (bb ff:Int),σ'=[some (.int bb),some (.int (m':Int)),some (.int N),some (.int ff)]∧N ∣ ff * bb ^ m' - b ^ t∧bb.natAbs < 2 ^ 200∧ff.natAbs < 2 ^ 100,fun _ _ h=>h,?_⟩
      have ht:=pow_turn hd
      have kb:=bits20 hb2 (by decide)
      have kf:=bits20 hf2 (by decide)
      have q0:=Int.emod_nonneg (bb * bb) (show N≠0 by omega)
      have q1:=Int.emod_lt_of_pos (bb * bb) h0
      refine seq_by (fun σ' H'=>H'=H2∧∃ g:Int,σ'=[some (.int bb),some (.int (m:Int)),some (.int N),some (.int g)]∧g=(if m % 2=1 then ff * bb % N else ff)∧g.natAbs < 2 ^ 100) (fun nx hnx=>?_) ?_
      · refine ⟨_,rfl,_,_,rfl,rfl,(show (0:Int) < 2 by decide),rfl,_,rfl,ite2 (fun hc1=>?_) (fun hc1=>?_)⟩
        · have h1:(m:Int) % 2=1:=V.int.inj (of_decide_eq_true hc1)
          have r0:=Int.emod_nonneg (ff * bb) (show N≠0 by omega)
          have r1:=Int.emod_lt_of_pos (ff * bb) h0
          exact ⟨_,rfl,_,rfl,_,_,rfl,rfl,⟨kf,kb⟩,_,rfl,_,_,rfl,rfl,h0,hnx _ _ ⟨rfl,_,rfl,by rw [if_pos (by omega)],by omega⟩⟩
        · have h1:¬ m % 2=1:=fun z=>hc1 (decide_eq_true (show V.int ((m:Int) % 2)=V.int 1 by congr 1;omega))
          exact hnx _ _ ⟨rfl,ff,rfl,by rw [if_neg h1],hf2⟩
      rintro σ' H' ⟨rfl,g,rfl,hg,hgb⟩
      rw [← hg] at ht
      refine ⟨_,rfl,_,rfl,_,_,rfl,rfl,⟨kb,kb⟩,_,rfl,_,_,rfl,rfl,h0,?_⟩
      exact ⟨_,rfl,_,_,rfl,rfl,⟨by decide,by decide⟩,m / 2,by omega,rfl,bb * bb % N,g,rfl,ht,by omega,hgb⟩
    · have hm:m=0:=by
        by_cases h:m=0
        · exact h
        · exact absurd (decide_eq_true (show (0:Int) < (m:Int) by omega)) hc
      subst hm
      rw [Int.pow_zero,Int.mul_one] at hd
      exact ⟨_,rfl,k ff hd hf2⟩
end
end Lw
namespace Lw
open PySem L2 PyProof.Rows
theorem bad_mid {K:PySem.W.Frag} {H:Hp} {a:Addr} {A B:List Int} {v:V} (hv:OddV K H v) (h:H a=some (.lst (A.map V.int++[v]++B.map V.int))) (hl:A.length+B.length≤900):LiBad K H (.ref a):=by
  refine .inr ⟨a,_,rfl,h,by rw [List.length_append,List.length_append,List.length_map,List.length_map];show _+1+_≤_;omega,.inr ⟨List.replicate A.length true++[false]++List.replicate B.length true,by simp,fun i x b hx hb=>?_,by simp⟩⟩
  rw [List.append_assoc] at hx hb
  by_cases h1:i < A.length
  · rw [List.getElem?_append_left (by rw [List.length_map];exact h1)] at hx
    rw [List.getElem?_append_left (by rw [List.length_replicate];exact h1)] at hb
    rw [(List.mem_replicate.mp (List.mem_of_getElem? hb)).2]
    obtain ⟨n,_,rfl⟩:=List.mem_map.mp (List.mem_of_getElem? hx)
    exact ⟨n,rfl⟩
  · rw [List.getElem?_append_right (by rw [List.length_map];omega),List.length_map] at hx
    rw [List.getElem?_append_right (by rw [List.length_replicate];omega),List.length_replicate] at hb
    cases e:i - A.length with
    | zero =>
      rw [e] at hx hb
      cases hx
      cases hb
      exact hv
    | succ j =>
      rw [e] at hx hb
      have hx':(B.map V.int)[j]? = some x:=hx
      have hb':(List.replicate B.length true)[j]? = some b:=hb
      rw [(List.mem_replicate.mp (List.mem_of_getElem? hb')).2]
      obtain ⟨n,_,rfl⟩:=List.mem_map.mp (List.mem_of_getElem? hx')
      exact ⟨n,rfl⟩
theorem comp_zr {σ:L2.St} {H:Hp} {Q:VK} {ta:TA} {m:Nat} (hσ:cst [none] σ=[none]) (ht:∀ R:List V→Hp→Prop,R [.int (m:Int)] H→ta σ H R) (hm:m≤1000)
    (k:∀ D H',Same H H'→H D=none→H' D=some (.lst ((List.replicate m (0:Int)).map V.int))→Q (.ref D) H'):tComp [none] (iRng1 ta) (gName 0) tAll (tC (V.int 0)) σ H Q:=by
  refine ht _ ⟨_,rfl,by omega,by omega,?_⟩
  rw [hσ,Int.toNat_natCast]
  refine comp_allR (τ0:=[none]) (sure_range (lo:=0) (n:=m)) (by rw [rngV_length];omega) (fun i ys τ H2=>H2=H∧(∃ v,τ=[v])∧ys=(List.replicate i (0:Int)).map V.int) ⟨rfl,⟨_,rfl⟩,rfl⟩ ?_ ?_ ?_
  · rintro i ys τ H2 hi ⟨rfl,_,rfl⟩
    exact ⟨trivial,by rw [List.length_map,List.length_replicate];exact Nat.le_refl _⟩
  · rintro i y ys τ H2 hy ⟨rfl,⟨v,rfl⟩,rfl⟩
    exact ⟨rfl,⟨_,rfl⟩,by rw [List.replicate_succ',List.map_append];rfl⟩
  · rintro ys τ H2 D ⟨rfl,_,rfl⟩ nD
    rw [rngV_length]
    exact k D _ (Same.add nD) nD upd_same
theorem mid_read {K:PySem.W.Frag} {σ:L2.St} {H:Hp} {Q:VK} {tv:TE} {l:Addr} {ns:List Int} {m:Nat} (h0:σ[0]? = some (some (.ref l))) (h2:σ[2]? = some (some (.int (m:Int)))) (hl:H l=some (.lst (ns.map V.int))) (h16:ns.length≤16)
    (hv:∀ H1 (R:VK),(∀ v H2,Same H1 H2→OddV K H2 v→R v H2)→tv σ H1 R) (k:∀ z H',LiBad K H' z→Same H H'→Q z H') :
    tOp rCat (tOp rCat (tSl (rSlL K) (tVar 0) tNoPart (tPart (tVar 2))) (tLst (tCons tv tNil))) (tSl (rSlL K) (tVar 0) (tPart (tOp (rI0 fun i j=>V.int (i+j)) (tVar 2) (tC (V.int 1)))) tNoPart) σ H Q:=by
  refine ⟨_,h0,_,h2,_,rfl,l,_,rfl,SqL.of hl,fun a1 n1=>?_⟩
  rw [cut_take,← List.map_take]
  refine hv _ _ fun v H2 s2 ov=>⟨szl (show 1≤1000 by decide),fun a2 n2=>?_⟩
  have s1:=Same.add (o:=.lst ((ns.take m).map V.int)) n1
  refine ⟨a1,a2,_,_,rfl,rfl,Same.add n2 _ _ (s2 _ _ upd_same),upd_same,szl (by rw [List.length_map,List.length_take];show _+1≤_;omega),fun a3 n3=>?_⟩
  have s3:Same H2 (upd (upd H2 a2 (.lst [v])) a3 (.lst ((ns.take m).map V.int++[v]))):=(Same.add n2).trans (Same.add n3)
  have h3:upd (upd H2 a2 (.lst [v])) a3 (.lst ((ns.take m).map V.int++[v])) a3=some (.lst ((ns.take m).map V.int++[v])):=upd_same
  revert s3 h3
  generalize upd (upd H2 a2 (.lst [v])) a3 (.lst ((ns.take m).map V.int++[v]))=H3
  intro s3 h3
  refine ⟨_,h0,_,h2,_,_,rfl,rfl,_,rfl,l,_,rfl,SqL.of (s3 _ _ (s2 _ _ (s1 _ _ hl))),fun a4 n4=>?_⟩
  rw [show ((m:Int)+1)=((m+1:Nat):Int) from rfl,cut_drop,← List.map_drop]
  refine ⟨a3,a4,_,_,rfl,rfl,Same.add n4 _ _ h3,upd_same,szl (by rw [List.length_append,List.length_map,List.length_map,List.length_take,List.length_drop];show _+1+_≤_;omega),fun a5 n5=>?_⟩
  have s5:Same H3 _:=(Same.add (o:=.lst ((ns.drop (m+1)).map V.int)) n4).trans (Same.add (o:=.lst ((ns.take m).map V.int++[v]++(ns.drop (m+1)).map V.int)) n5)
  refine k _ _ (bad_mid (ov.keep fun _ _ _ e=>s5 _ _ (s3 _ _ e)) upd_same ?_) (s1.trans (s2.trans (s3.trans s5)))
  rw [List.length_take,List.length_drop]
  omega
theorem pickO {K:PySem.W.Frag} {H:Hp} {d:Addr} {n:Nat} (hd:H d=some (.dK [])):∃ v,atI [V.non,V.str (Str.ofString ""),V.int 3,.ref d] ((n:Int) % 4)=some v∧NoLst K H v:=by
  have e:(n:Int) % 4=((n % 4:Nat):Int):=by omega
  rw [e]
  have h4:n % 4 < 4:=Nat.mod_lt _ (by decide)
  generalize n % 4=m at h4
  match m,h4 with
  | 0,_=>exact ⟨_,rfl,_,.non,by simp⟩
  | 1,_=>exact ⟨_,rfl,_,.str _,by simp⟩
  | 2,_=>exact ⟨_,rfl,_,.int _,by simp⟩
  | 3,_=>exact ⟨_,rfl,_,.dK hd,by simp⟩
  | m+4,h=>omega
section
variable {P:Program} {w:World} {K:PySem.W.Frag} {mg:Str→Option Value} {base:Heap}
def spNor (K:PySem.W.Frag):Sp:=fun vs H Q _=>∃ (l:Addr) (ns:List Int) (sp at_:Nat),vs=[.ref l,.int (sp:Int),.int (at_:Int)]∧H l=some (.lst (ns.map V.int))∧ns.length≤16∧sp < 6∧at_ < 4∧∀ z H',LiBad K H' z→Same H H'→Q z H'
theorem scNor:FnScope ["_law_line","_law_spoil","_law_at"] ["_law_line","_law_spoil","_law_at"] (defScope sNor):=⟨rfl,rfl,rfl,by decide +kernel,rfl,by decide +kernel,by decide +kernel⟩
theorem nd_nor1:(["_law_k"]:List Str).Nodup:=by decide +kernel
theorem ok_nor {f:Addr} {fd:FuncData} (F:Fun K "_law_no_row" "_law_no_row" sNor f fd)
    (hlen:mg "len" = none)
    (hrange:mg "range" = none)
    (htuple:mg "tuple" = none)
    : FnOk P w K mg base CX0 1 f fd ["_law_line","_law_spoil","_law_at"] (spNor K):=by
  refine F.ok scNor (fun vs H Q E h=>?_) (fun cdv A outer s H vs Q E hr h=>?_)
  · obtain ⟨l,ns,sp,m,rfl,_⟩:=h
    rfl
  · obtain ⟨l,ns,sp,m,rfl,hl,h16,hsp,hm,k⟩:=h
    refine ⟨_,(pss_cons (ps_if (pt_cmpR op_eq (pv 1) pe_int (nomark _)) (pss_one (ps_ret (pe_callTy (call_tuple_ofK K) (by rfl) htuple (by first | exact PySem.boot_tuple | decide +kernel) (pa_cons (pv 0) pa_nil)))) pss_nil)
      (pss_cons (ps_if (pt_cmpR op_eq (pv 1) pe_int (nomark _)) (pss_one (ps_ret (pe_op op_cat (pv 0) (pe_comp (N':=["_law_k"]) (ix:=[none]) rfl rfl (pi_range1 rfl hrange (pa_cons (pe_op op_sub pe_int (pe_callB (call_lenK K) (by rfl) hlen PySem.boot_len (pa_cons (pv 0) pa_nil))) pa_nil)) (fun _ _ _ _ _ _=>(pg_name (i:=0) nd_nor1 rfl (Or.inl rfl))) (fun _ _ _ _ _ _=>pts_nil) (fun _ _ _ _ _ _=>pe_int))))) pss_nil)
      (pss_cons (ps_if (pt_cmpR op_eq (pv 1) pe_int (nomark _)) (pss_one (ps_ret (pe_op op_cat (pe_op op_cat (pe_slice (sl_listK K) (pv 0) po_none (po_some (pv 2))) (pe_lst (pa_cons pe_bl pa_nil))) (pe_slice (sl_listK K) (pv 0) (po_some (pe_op op_add (pv 2) pe_int)) po_none)))) pss_nil)
      (pss_cons (ps_if (pt_cmpR op_eq (pv 1) pe_int (nomark _)) (pss_one (ps_ret (pe_op op_cat (pe_op op_cat (pe_slice (sl_listK K) (pv 0) po_none (po_some (pv 2))) (pe_lst (pa_cons pe_str pa_nil))) (pe_slice (sl_listK K) (pv 0) (po_some (pe_op op_add (pv 2) pe_int)) po_none)))) pss_nil)
      (pss_cons (ps_if (pt_cmpR op_eq (pv 1) pe_int (nomark _)) (pss_one (ps_ret (pe_op op_cat (pe_op op_cat (pe_slice (sl_listK K) (pv 0) po_none (po_some (pv 2))) (pe_lst (pa_cons (pe_lst (pa_cons pe_int pa_nil)) pa_nil))) (pe_slice (sl_listK K) (pv 0) (po_some (pe_op op_add (pv 2) pe_int)) po_none)))) pss_nil)
      (pss_one (ps_ret (pe_ix (ix_listK K) (pe_lst (pa_cons pe_non (pa_cons pe_str (pa_cons pe_int (pa_cons pe_dnewK pa_nil))))) (pe_op op_mod (pv 2) pe_int) (fun _ _=>rfl))))))))),?_⟩
    have el:(ns.map V.int).length=ns.length:=List.length_map _
    refine ⟨_,rfl,rfl,_,rfl,ite2 (fun hc=>?_) (fun hc=>?_)⟩
    · exact ⟨_,rfl,l,_,rfl,.inl ⟨SqL.of hl,fun a na=>k _ _ (.inl ⟨"tuple",TyOf.tup upd_same,by simp⟩) (Same.add na)⟩⟩
    refine ⟨_,rfl,rfl,_,rfl,ite2 (fun hc=>?_) (fun hc=>?_)⟩
    · refine ⟨_,rfl,?_⟩
      refine comp_zr (m:=17 - ns.length) rfl (fun R h=>⟨_,rfl,l,_,rfl,.inl (SqL.of hl),_,_,rfl,rfl,(by rw [show (fun i j:Int=>V.int (i - j)) 17 (((ns.map V.int).length:Nat):Int)=V.int ((17 - ns.length:Nat):Int) from congrArg V.int (by rw [el];omega)];exact h)⟩) (by omega) fun D H1 s1 nD hD=>?_
      refine ⟨l,D,_,_,rfl,rfl,s1 _ _ hl,hD,szl (by rw [el,List.length_map,List.length_replicate];omega),fun a na=>?_⟩
      refine k _ _ (.inr ⟨a,_,rfl,upd_same,by rw [List.length_append,el,List.length_map,List.length_replicate];omega,.inl (by rw [List.length_append,el,List.length_map,List.length_replicate];omega)⟩) (s1.trans (Same.add na))
    refine ⟨_,rfl,rfl,_,rfl,ite2 (fun hc=>ret_go (mid_read rfl rfl hl h16 (fun H1 R h=>h _ _ (Same.refl _) ⟨"bool",.bl _,by simp⟩) k)) (fun hc=>?_)⟩
    refine ⟨_,rfl,rfl,_,rfl,ite2 (fun hc=>ret_go (mid_read rfl rfl hl h16 (fun H1 R h=>h _ _ (Same.refl _) ⟨"str",.str _,by simp⟩) k)) (fun hc=>?_)⟩
    refine ⟨_,rfl,rfl,_,rfl,ite2 (fun hc=>ret_go (mid_read rfl rfl hl h16 (fun H1 R h=>⟨szl (show 1≤1000 by decide),fun a na=>h _ _ (Same.add na) ⟨"list",.lst upd_same,by simp⟩⟩) k)) (fun hc=>?_)⟩
    refine fun d nd=>⟨szl (show 4≤1000 by decide),fun L nL=>?_⟩
    obtain ⟨v,hv,hno⟩:=pickO (K:=K) (n:=m) (Same.add (o:=.lst [V.non,V.str (Str.ofString ""),V.int 3,.ref d]) nL _ _ (upd_same (a:=d) (H:=H) (o:=.dK [])))
    exact ⟨_,rfl,_,_,rfl,rfl,(show (0:Int) < 4 by decide),L,_,_,_,rfl,rfl,SqL.of upd_same,hv,k _ _ (.inl hno) ((Same.add nd).trans (Same.add nL))⟩
end
end Lw
namespace Lw
open PySem L2 PyProof.Rows
section
variable {P:Program} {w:World} {K:PySem.W.Frag} {mg:Str→Option Value} {base:Heap}
def spGre (K:PySem.W.Frag):Sp:=fun vs H Q _=>∃ (c s:Addr) (cs ss:List Int) (n:Nat) (N:Int),vs=[.ref c,.ref s,.int (n:Int),.int N]∧H c=some (.lst (cs.map V.int))∧H s=some (.lst (ss.map V.int))∧ss.length=cs.length∧cs.length≤16∧Bz 5000 cs∧Bz 5000 ss∧n+17 < 1000000000000000000000000000000000000000000000000000000000000∧0 < N∧N < 1000000000000000000000000000000∧∀ H',Same H H'→Q (.bl true) H'
theorem scGre:FnScope ["_law_c","_law_begins","_law_at_age","_law_number_here","_law_told","_law_k","_law_asked_here"] ["_law_c","_law_begins","_law_at_age","_law_number_here"] (defScope sGre):=⟨rfl,rfl,rfl,by decide +kernel,rfl,by decide +kernel,by decide +kernel⟩
theorem nd_gre1:(["_law_i","_law_c","_law_told"]:List Str).Nodup:=by decide +kernel
theorem ok_gre {f fAsk:Addr} {fd fdAsk:FuncData} (F:Fun K "_law_great" "_law_great" sGre f fd)
    (GAsk:FnOk P w K mg base CX0 5 fAsk fdAsk ["_law_c","_law_begins","_law_at_age","_law_number_here"] (spAsk K))
    (gAsk:Gf K mg "_law_asked" fAsk fdAsk ["_law_c","_law_begins","_law_at_age","_law_number_here"])
    (hlen:mg "len" = none)
    (hrange:mg "range" = none)
    (hsum:mg "sum" = none)
    (htuple:mg "tuple" = none)
    (hisinstance:mg "isinstance" = none)
    : FnOk P w K mg base CX0 6 f fd ["_law_c","_law_begins","_law_at_age","_law_number_here"] (spGre K):=by
  refine F.ok scGre (fun vs H Q E h=>?_) (fun cdv A outer s H vs Q E hr h=>?_)
  · obtain ⟨c,s0,cs,ss,n,N,rfl,_⟩:=h
    rfl
  · obtain ⟨c,s0,cs,ss,n,N,rfl,hc,hs,hl,h16,bc,bs,hn,h0,hN,k⟩:=h
    refine ⟨_,(pss_cons (ps_set (i:=4) scGre.nd rfl (Or.inr rfl) (pe_lst pa_nil))
      (pss_cons (ps_for PassesOwn.never rfl (pi_range1 rfl hrange (pa_cons (pe_op op_add (pe_callB (call_lenK K) (by rfl) hlen PySem.boot_len (pa_cons (pv 0) pa_nil)) pe_int) pa_nil)) (pg_name (i:=5) scGre.nd rfl (Or.inl rfl)) (pss_cons (ps_set (i:=6) scGre.nd rfl (Or.inl rfl) (pe_call GAsk hr rfl gAsk.m gAsk.k gAsk.b .nil pass0 (pa_cons (pv 0) (pa_cons (pv 1) (pa_cons (pe_op op_add (pv 2) (pv 5)) (pa_cons (pv 3) pa_nil))))))
      (pss_cons (ps_if (pt_not (pt_val (pe_callB (call_isinstK K) (by rfl) hisinstance (show bootBuiltins "isinstance" = some (.builtin "isinstance") by decide +kernel) (pa_cons (pv 6) (pa_cons (pe_bltn (v:=.ty "tuple") (by rfl) htuple (show bootBuiltins "tuple" = some (.type "tuple") by decide +kernel) rfl) pa_nil))))) (pss_one (ps_ret pe_bl)) pss_nil)
      (pss_one (ps_expr (pe_bmK K PySem.F.plainAttrs_list PySem.F.slot_list_append PySem.F.type_list_append mt_append (pv 4) (pa_cons (pe_ix (ix_tupK K) (pv 6) pe_int (fun _ _=>rfl)) pa_nil)))))))
      (pss_one (ps_ret (pe_cmpR op_eq (pe_op op_mod (pe_callB (call_sumK2 K rfl) (by rfl) hsum (by first | exact PySem.boot_sum | decide +kernel) (pa_cons (pe_comp (N':=["_law_i","_law_c","_law_told"]) (ix:=[none,some 0,some 4]) rfl rfl (pi_range1 rfl hrange (pa_cons (pe_callB (call_lenK K) (by rfl) hlen PySem.boot_len (pa_cons (pv 0) pa_nil)) pa_nil)) (fun _ _ _ _ _ _=>(pg_name (i:=0) nd_gre1 rfl (Or.inl rfl))) (fun _ _ _ _ _ _=>pts_nil) (fun _ _ _ _ _ _=>(pe_op op_mulB (pe_ix (ix_listK K) (pv 1) (pv 0) (fun _ _=>rfl)) (pe_ix (ix_listK K) (pv 2) (pv 0) (fun _ _=>rfl))))) pa_nil)) (pv 3)) (pe_ix (ix_listK K) (pv 4) (pe_callB (call_lenK K) (by rfl) hlen PySem.boot_len (pa_cons (pv 0) pa_nil)) (fun _ _=>rfl)) (nomark _)))))),?_⟩
    have ec:(cs.map V.int).length=cs.length:=List.length_map _
    have h30:(1000000000000000000000000000000:Nat) < 2 ^ 100:=by decide +kernel
    refine ⟨szl (show 0≤1000 by decide),fun l nl=>?_⟩
    have s1:=Same.add (o:=.lst []) nl
    refine ⟨_,rfl,c,_,rfl,.inl (SqL.of (s1 _ _ hc)),_,_,rfl,rfl,_,rfl,by rw [ec];omega,by rw [ec];omega,?_⟩
    rw [ec,show ((cs.length:Int)+1).toNat=cs.length+1 by omega]
    refine for_by (sure_range (lo:=0) (n:=cs.length+1)) (fun i σ H2=>∃ v5 v6:Option V,σ=[some (.ref c),some (.ref s0),some (.int (n:Int)),some (.int N),some (.ref l),v5,v6]∧Same H H2∧H2 l=some (.lst (((List.range i).map fun j=>xN cs ss (n+j) % N).map V.int)))
      ⟨_,_,rfl,s1,upd_same⟩ (fun _ _ _ _ _=>trivial) ?_ ?_
    · rintro i y σ H2 hy ⟨v5,v6,rfl,s2,hl2⟩
      obtain ⟨hi,rfl⟩:=rng_get hy
      refine ⟨_,rfl,_,rfl,_,rfl,_,rfl,_,_,rfl,rfl,_,rfl,.ref c,.ref s0,.int (((n+i:Nat)):Int),.int N,.told (xN cs ss (n+i) % N),(by show [V.ref c,V.ref s0,V.int ((n:Int)+(i:Int)),V.int N]=_;rw [Int.natCast_add]),⟨cs,ss,⟨c,rfl,s2 _ _ hc,h16⟩,bc,⟨s0,rfl,s2 _ _ hs,by omega⟩,hl,bs,n+i,N,rfl,by omega,rfl,h0,hN,rfl⟩,?_⟩
      rintro z H3 s3 ⟨T,rfl,hT⟩
      have hl3:=s3 _ _ hl2
      refine ⟨_,rfl,_,_,_,true,rfl,TyOf.tup hT,(by rfl),_,rfl,iteF ?_⟩
      refine ⟨_,rfl,.inl ⟨rfl,_,SqL.of hl3⟩,_,rfl,T,_,_,_,rfl,rfl,SqT.of hT,atI_nat (j:=0) rfl,l,_,_,rfl,rfl,hl3,szl (by rw [List.length_map,List.length_map,List.length_range];omega),?_⟩
      refine ⟨_,_,rfl,same_upd (s2.trans s3) nl,?_⟩
      rw [upd_same,List.range_succ,List.map_append,List.map_append]
      rfl
    · rintro σ H2 ⟨v5,v6,rfl,s2,hl2⟩
      rw [rngV_length] at hl2
      refine ⟨_,rfl,c,_,rfl,.inl (SqL.of (s2 _ _ hc)),_,rfl,by rw [ec];omega,by rw [ec];omega,?_⟩
      rw [ec,Int.toNat_natCast]
      have gv:=great_val (N:=N) hl n
      have lz:((List.range cs.length).map fun j=>xN cs ss (n+j) % N).length=cs.length:=by rw [List.length_map,List.length_range]
      have hz:∀ j,j < cs.length+1→(((List.range (cs.length+1)).map fun j=>xN cs ss (n+j) % N).map V.int)[j]? = some (V.int (xN cs ss (n+j) % N)):=fun j hj=>by
        rw [List.getElem?_map,List.getElem?_map,List.getElem?_range hj]
        rfl
      refine comp_allR (τ0:=[none,some (.ref c),some (.ref l)]) (sure_range (lo:=0) (n:=cs.length)) (by rw [rngV_length];omega)
        (fun j ys τ H3=>H3=H2∧(∃ v,τ=[v,some (.ref c),some (.ref l)])∧ys=((List.zipWith (· * ·) cs ((List.range cs.length).map fun j=>xN cs ss (n+j) % N)).take j).map V.int) ⟨rfl,⟨_,rfl⟩,rfl⟩ ?_ ?_ ?_
      · rintro j ys τ H3 hj ⟨rfl,_,rfl⟩
        exact ⟨trivial,by rw [List.length_map,List.length_take];omega⟩
      · rintro j y ys τ H3 hy ⟨rfl,⟨v,rfl⟩,rfl⟩
        obtain ⟨hj,rfl⟩:=rng_get hy
        have g1:(cs.map V.int)[j]? = some (V.int cs[j]):=by rw [List.getElem?_map,List.getElem?_eq_getElem hj];rfl
        have m0:=Int.emod_nonneg (xN cs ss (n+j)) (show N≠0 by omega)
        have m1:=Int.emod_lt_of_pos (xN cs ss (n+j)) h0
        have k1:=bits20 (bc _ (List.getElem_mem hj)) (by decide)
        have k2:=bits20 (x:=xN cs ss (n+j) % N) (e:=100) (by omega) (by decide)
        refine ⟨_,rfl,_,rfl,c,_,_,_,rfl,rfl,SqL.of (s2 _ _ hc),atI_nat g1,_,rfl,_,rfl,l,_,_,_,rfl,rfl,SqL.of hl2,atI_nat (hz j (by omega)),_,_,rfl,rfl,⟨k1,k2⟩,rfl,⟨_,rfl⟩,?_⟩
        have g3:(List.zipWith (· * ·) cs ((List.range cs.length).map fun j=>xN cs ss (n+j) % N))[j]? = some (cs[j] * (xN cs ss (n+j) % N)):=by
          rw [List.getElem?_zipWith,List.getElem?_eq_getElem hj,List.getElem?_map,List.getElem?_range hj]
          rfl
        rw [List.take_add_one,g3,List.map_append]
        rfl
      · rintro ys τ H3 D ⟨rfl,_,rfl⟩ nD
        have hzl:(List.zipWith (· * ·) cs ((List.range cs.length).map fun j=>xN cs ss (n+j) % N)).length=cs.length:=by rw [List.length_zipWith,lz];omega
        rw [rngV_length,List.take_of_length_le (by omega)]
        have sD:=Same.add (o:=.lst ((List.zipWith (· * ·) cs ((List.range cs.length).map fun j=>xN cs ss (n+j) % N)).map V.int)) nD
        refine ⟨D,_,rfl,SqL.of upd_same,_,rfl,_,_,rfl,rfl,h0,_,rfl,_,rfl,c,_,rfl,.inl (SqL.of (sD _ _ (s2 _ _ hc))),l,_,_,_,rfl,rfl,SqL.of (sD _ _ hl2),(by rw [ec];exact atI_nat (hz cs.length (by omega))),rfl,?_⟩
        rw [show decide ((fun i j:Int=>V.int (i % j)) (List.zipWith (· * ·) cs ((List.range cs.length).map fun j=>xN cs ss (n+j) % N)).sum N=V.int (xN cs ss (n+cs.length) % N))=true from decide_eq_true (congrArg V.int gv)]
        exact k _ (s2.trans sD)
def spRnd (K:PySem.W.Frag):Sp:=fun vs H Q _=>∃ (c s:Addr) (cs ss:List Int) (n:Nat) (N:Int),vs=[.ref c,.ref s,.int (n:Int),.int N]∧H c=some (.lst (cs.map V.int))∧H s=some (.lst (ss.map V.int))∧ss.length=cs.length∧cs.length≤16∧Bz 200 cs∧Bz 5000 ss∧n < 1000000000000000000000000000000000000000000000000000000000000∧0 < N∧N < 1000000000000000000000000000000∧∀ H',Same H H'→Q (.bl true) H'
theorem scRnd:FnScope ["_law_c","_law_begins","_law_at_age","_law_number_here","_law_turned_round","_law_asked_here"] ["_law_c","_law_begins","_law_at_age","_law_number_here"] (defScope sRnd):=⟨rfl,rfl,rfl,by decide +kernel,rfl,by decide +kernel,by decide +kernel⟩
theorem nd_rnd1:(["_law_k"]:List Str).Nodup:=by decide +kernel
theorem ok_rnd {f fAsk fPow:Addr} {fd fdAsk fdPow:FuncData} (F:Fun K "_law_round" "_law_round" sRnd f fd)
    (GAsk:FnOk P w K mg base CX0 5 fAsk fdAsk ["_law_c","_law_begins","_law_at_age","_law_number_here"] (spAsk K))
    (gAsk:Gf K mg "_law_asked" fAsk fdAsk ["_law_c","_law_begins","_law_at_age","_law_number_here"])
    (GPow:FnOk P w K mg base CX0 1 fPow fdPow ["_law_base","_law_times","_law_number_here"] spPow)
    (gPow:Gf K mg "_law_power" fPow fdPow ["_law_base","_law_times","_law_number_here"])
    (hlen:mg "len" = none)
    (hrange:mg "range" = none)
    : FnOk P w K mg base CX0 6 f fd ["_law_c","_law_begins","_law_at_age","_law_number_here"] (spRnd K):=by
  refine F.ok scRnd (fun vs H Q E h=>?_) (fun cdv A outer s H vs Q E hr h=>?_)
  · obtain ⟨c,s0,cs,ss,n,N,rfl,_⟩:=h
    rfl
  · obtain ⟨c,s0,cs,ss,n,N,rfl,hc,hs,hl,h16,bc,bs,hn,h0,hN,k⟩:=h
    have hr1:Room 1 _:=hr.mono (by decide)
    refine ⟨_,(pss_cons (ps_if (pt_cmpR op_eq (pe_callB (call_lenK K) (by rfl) hlen PySem.boot_len (pa_cons (pv 0) pa_nil)) pe_int (nomark _)) (pss_one (ps_ret pe_bl)) pss_nil)
      (pss_cons (ps_set (i:=4) scRnd.nd rfl (Or.inl rfl) (pe_op op_cat (pe_lst (pa_cons (pe_ix (ix_listK K) (pv 0) pe_int (fun _ _=>rfl)) pa_nil)) (pe_comp (N':=["_law_k"]) (ix:=[none]) rfl rfl (pi_range1 rfl hrange (pa_cons (pe_op op_sub (pe_callB (call_lenK K) (by rfl) hlen PySem.boot_len (pa_cons (pv 0) pa_nil)) pe_int) pa_nil)) (fun _ _ _ _ _ _=>(pg_name (i:=0) nd_rnd1 rfl (Or.inl rfl))) (fun _ _ _ _ _ _=>pts_nil) (fun _ _ _ _ _ _=>pe_int))))
      (pss_cons (ps_set (i:=5) scRnd.nd rfl (Or.inl rfl) (pe_call GAsk hr rfl gAsk.m gAsk.k gAsk.b .nil pass0 (pa_cons (pv 4) (pa_cons (pv 1) (pa_cons (pv 2) (pa_cons (pv 3) pa_nil))))))
      (pss_one (ps_ret (pe_cmpR (op_eqVK K hr.units) (pv 5) (pe_tup (pa_cons (pe_op op_mod (pe_op op_mulB (pe_ix (ix_listK K) (pv 1) (pe_op op_mod (pv 2) (pe_callB (call_lenK K) (by rfl) hlen PySem.boot_len (pa_cons (pv 0) pa_nil))) (fun _ _=>rfl)) (pe_call GPow hr1 rfl gPow.m gPow.k gPow.b .nil pass0 (pa_cons (pe_ix (ix_listK K) (pv 0) pe_int (fun _ _=>rfl)) (pa_cons (pe_op op_fdivB (pv 2) (pe_callB (call_lenK K) (by rfl) hlen PySem.boot_len (pa_cons (pv 0) pa_nil))) (pa_cons (pv 3) pa_nil))))) (pv 3)) pa_nil)) (nomark _))))))),?_⟩
    have ec:(cs.map V.int).length=cs.length:=List.length_map _
    refine ⟨_,rfl,c,_,rfl,.inl (SqL.of hc),rfl,_,rfl,ite2 (fun hz=>k H (Same.refl _)) (fun hz=>?_)⟩
    have hpos:0 < cs.length:=by
      by_cases h:0 < cs.length
      · exact h
      · exact absurd (decide_eq_true (show V.int (((cs.map V.int).length:Nat):Int)=V.int 0 by rw [ec,show cs.length=0 by omega];rfl)) hz
    obtain ⟨c0,cr,rfl⟩:=List.exists_cons_of_length_pos hpos
    have hcl:(c0 :: cr).length=cr.length+1:=List.length_cons
    refine ⟨_,rfl,c,_,_,_,rfl,rfl,SqL.of hc,atI_nat (j:=0) rfl,szl (show 1≤1000 by decide),fun a1 n1=>?_⟩
    dsimp only [tNil]
    refine comp_zr (m:=cr.length) rfl (fun R h=>⟨_,rfl,c,_,rfl,.inl (SqL.of (Same.add n1 _ _ hc)),_,_,rfl,rfl,(by rw [show (fun i j:Int=>V.int (i - j)) ((((c0 :: cr).map V.int).length:Nat):Int) 1=V.int ((cr.length:Nat):Int) from congrArg V.int (by rw [ec,hcl];omega)];exact h)⟩) (by omega) fun D H1 s1 nD hD=>?_
    refine ⟨a1,D,_,_,rfl,rfl,s1 _ _ upd_same,hD,szl (by rw [List.length_map,List.length_replicate];show 1+_≤_;omega),fun a2 n2=>?_⟩
    rw [show [V.int c0]++(List.replicate cr.length (0:Int)).map V.int=(c0 :: List.replicate cr.length 0).map V.int from rfl]
    have s2:=((Same.add (o:=.lst [V.int c0]) n1).trans s1).trans (Same.add (o:=.lst ((c0 :: List.replicate cr.length (0:Int)).map V.int)) n2)
    have h2:upd H1 a2 (.lst ((c0 :: List.replicate cr.length (0:Int)).map V.int)) a2=some (.lst ((c0 :: List.replicate cr.length (0:Int)).map V.int)):=upd_same
    revert s2 h2
    generalize upd H1 a2 (.lst ((c0 :: List.replicate cr.length (0:Int)).map V.int))=H2
    intro s2 h2
    have lr:(c0 :: List.replicate cr.length (0:Int)).length=cr.length+1:=by rw [List.length_cons,List.length_replicate]
    have bz2:Bz 5000 (c0 :: List.replicate cr.length (0:Int)):=fun x hx=>by
      rcases List.mem_cons.mp hx with h | h
      · rw [h];exact bc.mono (by decide) c0 List.mem_cons_self
      · rw [(List.mem_replicate.mp h).2];exact Nat.pow_pos (by decide)
    have hsl:ss.length=cr.length+1:=by rw [hl,hcl]
    refine ⟨_,rfl,_,rfl,_,rfl,_,rfl,.ref a2,.ref s0,.int (n:Int),.int N,.told (xN (c0 :: List.replicate cr.length 0) ss n % N),rfl,⟨_,ss,⟨a2,rfl,h2,by rw [lr];omega⟩,bz2,⟨s0,rfl,s2 _ _ hs,by omega⟩,by rw [lr];exact hsl,bs,n,N,rfl,hn,rfl,h0,hN,rfl⟩,?_⟩
    rintro z H3 s3 ⟨T,rfl,hT⟩
    have s23:=s2.trans s3
    have hm:n % (cr.length+1) < ss.length:=by rw [hsl];exact Nat.mod_lt _ (by omega)
    have em:((n:Int) % ((((c0 :: cr).map V.int).length:Nat):Int))=((n % (cr.length+1):Nat):Int):=by rw [ec,hcl,Int.natCast_emod]
    have ed:((n:Int) / ((((c0 :: cr).map V.int).length:Nat):Int))=((n / (cr.length+1):Nat):Int):=by rw [ec,hcl,Int.natCast_ediv]
    have g1:(ss.map V.int)[n % (cr.length+1)]? = some (V.int ss[n % (cr.length+1)]):=by rw [List.getElem?_map,List.getElem?_eq_getElem hm];rfl
    refine ⟨_,rfl,_,rfl,_,rfl,_,rfl,c,_,rfl,.inl (SqL.of (s23 _ _ hc)),_,_,rfl,rfl,(show (0:Int) < _ by rw [ec];omega),s0,_,_,_,rfl,rfl,SqL.of (s23 _ _ hs),(by rw [em];exact atI_nat g1),?_⟩
    refine ⟨_,rfl,c,_,_,_,rfl,rfl,SqL.of (s23 _ _ hc),atI_nat (j:=0) rfl,_,rfl,_,rfl,c,_,rfl,.inl (SqL.of (s23 _ _ hc)),_,_,rfl,rfl,⟨by rw [ec];omega,by rw [ec];omega⟩,_,rfl,c0,n / (cr.length+1),N,(by show [V.int c0,V.int ((n:Int) / ((((c0 :: cr).map V.int).length:Nat):Int)),V.int N]=_;rw [ed]),bc c0 List.mem_cons_self,h0,hN,fun f hd hf=>?_⟩
    have k1:=bits20 (bs _ (List.getElem_mem hm)) (by decide)
    have k2:=bits20 hf (by decide)
    refine ⟨_,_,rfl,rfl,⟨k1,k2⟩,_,rfl,_,_,rfl,rfl,h0,szl (show 1≤1000 by decide),fun T2 nT2=>?_⟩
    have hv:ss[n % (cr.length+1)] * f % N=xN (c0 :: List.replicate cr.length 0) ss n % N:=by
      have hx:=xN_first (cs:=c0 :: List.replicate cr.length 0) (ss:=ss) (by rw [lr];exact hsl) (by rw [lr];omega) (i:=n % (cr.length+1)) (by rw [lr];exact Nat.mod_lt _ (by omega))
      rw [List.getElem?_eq_getElem hm] at hx
      have hx:=Option.some.inj hx
      have hr:=rnd_val (c0:=c0) hsl (n / (cr.length+1)) (n % (cr.length+1))
      rw [Nat.mul_comm,Nat.div_add_mod] at hr
      rw [hr,hx]
      refine Int.emod_eq_emod_iff_emod_sub_eq_zero.mpr (Int.emod_eq_zero_of_dvd ?_)
      generalize xN (c0 :: List.replicate cr.length 0) ss (n % (cr.length+1))=X
      rw [Int.mul_comm X f,← Int.sub_mul]
      exact Int.dvd_trans hd (Int.dvd_mul_right _ _)
    rw [show (fun i j:Int=>V.int (i % j)) (ss[n % (cr.length+1)] * f) N=V.int (xN (c0 :: List.replicate cr.length 0) ss n % N) from congrArg V.int hv]
    have sT:=Same.add (o:=.tup [V.int (xN (c0 :: List.replicate cr.length 0) ss n % N)]) nT2
    refine ⟨0,T,T2,rfl,rfl,.seq true (SqT.of (sT _ _ hT)) (SqT.of upd_same) rfl (fun i x y hx hy=>?_),by decide,k _ (s23.trans sT)⟩
    rw [hx] at hy
    cases hy
    match i with
    | 0=>cases hx;exact .flat rfl
    | i+1=>cases hx
end
end Lw
namespace Lw
open PySem L2 PyProof.Rows
theorem same_flat {K:PySem.W.Frag} {H:Hp} {a b:Addr} {xs:List V} (ha:H a=some (.lst xs)) (hb:H b=some (.lst xs)) (hf:∀ x∈xs,flatV x=true):VSame K H 1 (.ref a) (.ref b):=by
  refine .seq false (SqL.of ha) (SqL.of hb) rfl fun i x y hx hy=>?_
  rw [hx] at hy
  cases hy
  exact .flat (hf x (List.mem_of_getElem? hx))
theorem flat3 {x:V} {s:Str} (h:x∈[V.str s,.bl true,.bl false]):flatV x=true:=by
  simp only [List.mem_cons,List.not_mem_nil,or_false] at h
  rcases h with rfl | rfl | rfl <;> rfl
theorem pickA {K:PySem.W.Frag} {n sp:Nat} (h:sp < 6):∃ v,atI [V.int (-1),V.int ((10:Int) ^ Int.toNat 60),V.bl true,V.str (Str.ofString "3"),V.non,V.int (-(n:Int) - 1)] (sp:Int)=some v∧∀ H,FarBad K H v:=by
  rw [ten60]
  match sp,h with
  | 0,_=>exact ⟨_,rfl,fun H=>.inr ⟨_,rfl,.inl (by decide)⟩⟩
  | 1,_=>exact ⟨_,rfl,fun H=>.inr ⟨_,rfl,.inr (by decide)⟩⟩
  | 2,_=>exact ⟨_,rfl,fun H=>.inl ⟨_,.bl _,by simp⟩⟩
  | 3,_=>exact ⟨_,rfl,fun H=>.inl ⟨_,.str _,by simp⟩⟩
  | 4,_=>exact ⟨_,rfl,fun H=>.inl ⟨_,.non,by simp⟩⟩
  | 5,_=>exact ⟨_,rfl,fun H=>.inr ⟨_,rfl,.inl (by omega)⟩⟩
  | m+6,h=>omega
theorem pickN {K:PySem.W.Frag} {N:Int} {sp:Nat} (h0:0 < N) (h:sp < 6):∃ v,atI [V.int 0,V.int ((10:Int) ^ Int.toNat 30),V.bl true,V.str (Str.ofString "3"),V.non,V.int (-N)] (sp:Int)=some v∧∀ H,NumBad K H v:=by
  rw [ten30]
  match sp,h with
  | 0,_=>exact ⟨_,rfl,fun H=>.inr ⟨_,rfl,.inl (by decide)⟩⟩
  | 1,_=>exact ⟨_,rfl,fun H=>.inr ⟨_,rfl,.inr (by decide)⟩⟩
  | 2,_=>exact ⟨_,rfl,fun H=>.inl ⟨_,.bl _,by simp⟩⟩
  | 3,_=>exact ⟨_,rfl,fun H=>.inl ⟨_,.str _,by simp⟩⟩
  | 4,_=>exact ⟨_,rfl,fun H=>.inl ⟨_,.non,by simp⟩⟩
  | 5,_=>exact ⟨_,rfl,fun H=>.inr ⟨_,rfl,.inl (by omega)⟩⟩
  | m+6,h=>omega
section
variable {P:Program} {w:World} {K:PySem.W.Frag} {mg:Str→Option Value} {base:Heap}
def spDrw (K:PySem.W.Frag):Sp:=fun vs H Q _=>∃ (a:Addr) (ns:List Int),vs=[.ref a]∧SqL K H a (ns.map V.int)∧ns.length≤63 ∧
  ∀ (T:Addr) (sp m mn:Nat) (g:Bool) (nr fr:Nat) (N:Int) H',sp < 6→m < 4→mn≤16→nr≤60→fr+20 < 1000000000000000000000000000000000000000000000000000000000000→0 < N→N < 1000000000000000000000000000000→Same H H'→H' T=some (.tup [.int (sp:Int),.int (m:Int),.int (mn:Int),.bl g,.int (nr:Int),.int (fr:Int),.int N])→Q (.ref T) H'
theorem scDrw:FnScope ["_law_script","_law_pen_here","_law_spoil","_law_at","_law_many","_law_great_here","_law_near","_law_far"] ["_law_script"] (defScope sDrw):=⟨rfl,rfl,rfl,by decide +kernel,rfl,by decide +kernel,by decide +kernel⟩
theorem ok_drw {f fPen fTak fNum:Addr} {fd fdPen fdTak fdNum:FuncData} (F:Fun K "_law_draws" "_law_draws" sDrw f fd)
    (GPen:FnOk P w K mg base CX0 1 fPen fdPen ["_law_script","_law_k"] (spPen K))
    (gPen:Gf K mg "_law_pen" fPen fdPen ["_law_script","_law_k"])
    (GTak:FnOk P w K mg base CX0 1 fTak fdTak ["_law_pen_here","_law_size"] spTak)
    (gTak:Gf K mg "_law_take" fTak fdTak ["_law_pen_here","_law_size"])
    (GNum:FnOk P w K mg base CX0 2 fNum fdNum ["_law_pen_here"] spNum)
    (gNum:Gf K mg "_law_number" fNum fdNum ["_law_pen_here"])
    : FnOk P w K mg base CX0 3 f fd ["_law_script"] (spDrw K):=by
  refine F.ok scDrw (fun vs H Q E h=>?_) (fun cdv A outer s H vs Q E hr h=>?_)
  · obtain ⟨a,ns,rfl,_⟩:=h
    rfl
  · obtain ⟨a,ns,rfl,hS,h63,k⟩:=h
    have hr1:Room 1 _:=hr.mono (by decide)
    refine ⟨_,(pss_cons (ps_set (i:=1) scDrw.nd rfl (Or.inl rfl) (pe_call GPen hr1 rfl gPen.m gPen.k gPen.b .nil pass0 (pa_cons (pv 0) (pa_cons pe_int pa_nil))))
      (pss_cons (ps_set (i:=2) scDrw.nd rfl (Or.inl rfl) (pe_call GTak hr1 rfl gTak.m gTak.k gTak.b .nil pass0 (pa_cons (pv 1) (pa_cons pe_int pa_nil))))
      (pss_cons (ps_set (i:=3) scDrw.nd rfl (Or.inl rfl) (pe_call GTak hr1 rfl gTak.m gTak.k gTak.b .nil pass0 (pa_cons (pv 1) (pa_cons pe_int pa_nil))))
      (pss_cons (ps_set (i:=4) scDrw.nd rfl (Or.inl rfl) (pe_call GTak hr1 rfl gTak.m gTak.k gTak.b .nil pass0 (pa_cons (pv 1) (pa_cons pe_int pa_nil))))
      (pss_cons (ps_if (pt_cmpR op_eq (pe_call GTak hr1 rfl gTak.m gTak.k gTak.b .nil pass0 (pa_cons (pv 1) (pa_cons pe_int pa_nil))) pe_int (nomark _)) (pss_one (ps_set (i:=4) scDrw.nd rfl (Or.inl rfl) (pe_call GTak hr1 rfl gTak.m gTak.k gTak.b .nil pass0 (pa_cons (pv 1) (pa_cons pe_int pa_nil))))) pss_nil)
      (pss_cons (ps_set (i:=5) scDrw.nd rfl (Or.inl rfl) (pe_cmpR op_eq (pe_call GTak hr1 rfl gTak.m gTak.k gTak.b .nil pass0 (pa_cons (pv 1) (pa_cons pe_int pa_nil))) pe_int (nomark _)))
      (pss_cons (ps_set (i:=6) scDrw.nd rfl (Or.inl rfl) (pe_call GTak hr1 rfl gTak.m gTak.k gTak.b .nil pass0 (pa_cons (pv 1) (pa_cons pe_int pa_nil))))
      (pss_cons (ps_set (i:=7) scDrw.nd rfl (Or.inl rfl) (pe_op op_mod (pe_op op_pow (pe_call GTak hr1 rfl gTak.m gTak.k gTak.b .nil pass0 (pa_cons (pv 1) (pa_cons pe_int pa_nil))) pe_int) (pe_op op_sub (pe_op op_pow pe_int pe_int) pe_int)))
      (pss_one (ps_ret (pe_tup (pa_cons (pv 2) (pa_cons (pv 3) (pa_cons (pv 4) (pa_cons (pv 5) (pa_cons (pv 6) (pa_cons (pv 7) (pa_cons (pe_call GNum hr rfl gNum.m gNum.k gNum.b .nil pass0 (pa_cons (pv 1) pa_nil)) pa_nil)))))))))))))))))),?_⟩
    refine ⟨_,rfl,a,ns,1,rfl,hS,h63,by omega,by omega,fun p Ha sa np hPa=>?_⟩
    refine ⟨_,rfl,p,0,6,rfl,hPa,by omega,by decide,by decide,fun z H1 x0 x1 hP1 e1=>?_⟩
    obtain ⟨sp,rfl⟩:∃ m:Nat,z=(m:Int):=⟨z.toNat,by omega⟩
    refine ⟨_,rfl,p,_,4,rfl,hP1,by omega,by decide,by decide,fun z H2 y0 y1 hP2 e2=>?_⟩
    obtain ⟨m,rfl⟩:∃ m:Nat,z=(m:Int):=⟨z.toNat,by omega⟩
    refine ⟨_,rfl,p,_,4,rfl,hP2,by omega,by decide,by decide,fun z H3 z0 z1 hP3 e3=>?_⟩
    obtain ⟨mn,rfl⟩:∃ m:Nat,z=(m:Int):=⟨z.toNat,by omega⟩
    have eb:∀ {X Y:Hp},(∀ c,c≠p→Y c=X c)→But p X Y:=fun e c o h n=>(e c n).trans h
    have b3:But p Ha H3:=(eb e1).trans ((eb e2).trans (eb e3))
    dsimp only [gName]
    refine seq_by (fun σ H'=>∃ mn:Nat,σ=[some (.ref a),some (.ref p),some (.int (sp:Int)),some (.int (m:Int)),some (.int (mn:Int)),none,none,none]∧mn≤16∧But p Ha H'∧PenAt H' p 10) (fun nx hnx=>?_) ?_
    · refine ⟨_,rfl,p,_,4,rfl,hP3,by omega,by decide,by decide,fun z4 H4 w0 w1 hP4 e4=>⟨rfl,_,rfl,ite2 (fun hc=>?_) (fun hc=>hnx _ _ ⟨mn,rfl,by omega,b3.trans (eb e4),hP4.mono (by omega)⟩)⟩⟩
      refine ⟨_,rfl,p,_,17,rfl,hP4,by omega,by decide,by decide,fun z5 H5 u0 u1 hP5 e5=>?_⟩
      obtain ⟨mm,rfl⟩:∃ m:Nat,z5=(m:Int):=⟨z5.toNat,by omega⟩
      exact hnx _ _ ⟨mm,rfl,by omega,b3.trans ((eb e4).trans (eb e5)),hP5.mono (by omega)⟩
    rintro σ H4 ⟨mn,rfl,hmn,b4,hP4⟩
    refine ⟨_,rfl,p,_,3,rfl,hP4,by omega,by decide,by decide,fun z5 H5 u0 u1 hP5 e5=>⟨rfl,?_⟩⟩
    generalize decide (V.int z5=V.int 1)=g
    refine ⟨_,rfl,p,_,61,rfl,hP5,by omega,by decide,by decide,fun z6 H6 t0 t1 hP6 e6=>?_⟩
    obtain ⟨nr,rfl⟩:∃ m:Nat,z6=(m:Int):=⟨z6.toNat,by omega⟩
    refine ⟨_,rfl,p,_,2147483000,rfl,hP6,by omega,by decide,by decide,fun z7 H7 s0 s1 hP7 e7=>?_⟩
    refine ⟨_,_,rfl,rfl,⟨by decide,by decide,by omega⟩,_,_,rfl,rfl,⟨by decide,by decide,by decide⟩,_,_,rfl,rfl,?_⟩
    rw [ten60]
    refine ⟨_,_,rfl,rfl,(show (0:Int) < 1000000000000000000000000000000000000000000000000000000000000 - 20 by decide),?_⟩
    generalize z7 ^ Int.toNat 7=q
    have m0:=Int.emod_nonneg q (show (1000000000000000000000000000000000000000000000000000000000000 - 20:Int)≠0 by decide)
    have m1:=Int.emod_lt_of_pos q (show (0:Int) < 1000000000000000000000000000000000000000000000000000000000000 - 20 by decide)
    obtain ⟨fr,hfr⟩:∃ m:Nat,q % (1000000000000000000000000000000000000000000000000000000000000 - 20)=(m:Int):=⟨(q % (1000000000000000000000000000000000000000000000000000000000000 - 20)).toNat,by omega⟩
    rw [show (fun i j:Int=>V.int (i % j)) q (1000000000000000000000000000000000000000000000000000000000000 - 20)=V.int (fr:Int) from congrArg V.int hfr]
    refine ⟨_,rfl,_,rfl,_,rfl,_,rfl,_,rfl,_,rfl,_,rfl,p,_,rfl,hP7,by omega,fun N H8 n0 n1 b8=>⟨szl (show 7≤1000 by decide),fun T nT=>?_⟩⟩
    have ball:But p Ha H8:=b4.trans ((eb e5).trans ((eb e6).trans ((eb e7).trans b8)))
    exact k T sp m mn g nr fr N _ (by omega) (by omega) hmn (by omega) (by omega) n0 n1 (fun c o h=>Same.add nT _ _ (ball c o (sa c o h) (ne_of_none h np))) upd_same
def spRef (K:PySem.W.Frag):Sp:=fun vs H Q _=>∃ (c s:Addr) (cs ss:List Int) (n:Nat) (N:Int) (sp m:Nat),vs=[.ref c,.ref s,.int (n:Int),.int N,.int (sp:Int),.int (m:Int)]∧H c=some (.lst (cs.map V.int))∧H s=some (.lst (ss.map V.int))∧ss.length=cs.length∧cs.length≤16∧Bz 5000 cs∧Bz 5000 ss∧n < 1000∧0 < N∧N < 1000000000000000000000000000000∧sp < 6∧m < 4∧∀ H',Same H H'→Q (.bl true) H'
theorem scRef:FnScope ["_law_c","_law_begins","_law_at_age","_law_number_here","_law_spoil","_law_at","_law_bad_c","_law_bad_begins","_law_bad_age","_law_bad_number","_law_no_age","_law_no_number","_law_noughts"] ["_law_c","_law_begins","_law_at_age","_law_number_here","_law_spoil","_law_at"] (defScope sRef):=⟨rfl,rfl,rfl,by decide +kernel,rfl,by decide +kernel,by decide +kernel⟩
theorem nd_ref1:(["_law_k"]:List Str).Nodup:=by decide +kernel
theorem ok_ref {f fNor fAsk:Addr} {fd fdNor fdAsk:FuncData} (F:Fun K "_law_refused" "_law_refused" sRef f fd)
    (GNor:FnOk P w K mg base CX0 1 fNor fdNor ["_law_line","_law_spoil","_law_at"] (spNor K))
    (gNor:Gf K mg "_law_no_row" fNor fdNor ["_law_line","_law_spoil","_law_at"])
    (GAsk:FnOk P w K mg base CX0 5 fAsk fdAsk ["_law_c","_law_begins","_law_at_age","_law_number_here"] (spAsk K))
    (gAsk:Gf K mg "_law_asked" fAsk fdAsk ["_law_c","_law_begins","_law_at_age","_law_number_here"])
    (hlen:mg "len" = none)
    (hrange:mg "range" = none)
    : FnOk P w K mg base CX0 6 f fd ["_law_c","_law_begins","_law_at_age","_law_number_here","_law_spoil","_law_at"] (spRef K):=by
  refine F.ok scRef (fun vs H Q E h=>?_) (fun cdv A outer s H vs Q E hr h=>?_)
  · obtain ⟨c,s0,cs,ss,n,N,sp,m,rfl,_⟩:=h
    rfl
  · obtain ⟨c,s0,cs,ss,n,N,sp,m,rfl,hc,hs,hl,h16,bc,bs,hn,h0,hN,hsp,hm,k⟩:=h
    have hr1:Room 1 _:=hr.mono (by decide)
    refine ⟨_,(pss_cons (ps_set (i:=6) scRef.nd rfl (Or.inl rfl) (pe_call GNor hr1 rfl gNor.m gNor.k gNor.b .nil pass0 (pa_cons (pv 0) (pa_cons (pv 4) (pa_cons (pv 5) pa_nil)))))
      (pss_cons (ps_set (i:=7) scRef.nd rfl (Or.inl rfl) (pe_call GNor hr1 rfl gNor.m gNor.k gNor.b .nil pass0 (pa_cons (pv 1) (pa_cons (pv 4) (pa_cons (pv 5) pa_nil)))))
      (pss_cons (ps_if (pt_cmpR op_eq (pe_op op_mod (pv 5) pe_int) pe_int (nomark _)) (pss_cons (ps_set (i:=7) scRef.nd rfl (Or.inl rfl) (pe_op op_cat (pv 1) (pe_lst (pa_cons pe_int pa_nil))))
      (pss_one (ps_if (PW.pt (pw_and (pt_cmpR op_gt (pv 4) pe_int (nomark _)) (pw_and1 (pt_cmpR op_gt (pe_callB (call_lenK K) (by rfl) hlen PySem.boot_len (pa_cons (pv 1) pa_nil)) pe_int (nomark _))))) (pss_one (ps_set (i:=7) scRef.nd rfl (Or.inl rfl) (pe_slice (sl_listK K) (pv 1) (po_some pe_int) po_none))) pss_nil))) pss_nil)
      (pss_cons (ps_set (i:=8) scRef.nd rfl (Or.inl rfl) (pe_ix (ix_listK K) (pe_lst (pa_cons (pe_un un_neg pe_int) (pa_cons (pe_op op_pow pe_int pe_int) (pa_cons pe_bl (pa_cons pe_str (pa_cons pe_non (pa_cons (pe_op op_sub (pe_un un_neg (pv 2)) pe_int) pa_nil))))))) (pv 4) (fun _ _=>rfl)))
      (pss_cons (ps_set (i:=9) scRef.nd rfl (Or.inl rfl) (pe_ix (ix_listK K) (pe_lst (pa_cons pe_int (pa_cons (pe_op op_pow pe_int pe_int) (pa_cons pe_bl (pa_cons pe_str (pa_cons pe_non (pa_cons (pe_un un_neg (pv 3)) pa_nil))))))) (pv 4) (fun _ _=>rfl)))
      (pss_cons (ps_set (i:=10) scRef.nd rfl (Or.inl rfl) (pe_lst (pa_cons pe_str (pa_cons pe_bl (pa_cons pe_bl pa_nil)))))
      (pss_cons (ps_set (i:=11) scRef.nd rfl (Or.inl rfl) (pe_lst (pa_cons pe_str (pa_cons pe_bl (pa_cons pe_bl pa_nil)))))
      (pss_cons (ps_if (pt_cmpR (op_neVK K hr.units) (pe_call GAsk hr rfl gAsk.m gAsk.k gAsk.b .nil pass0 (pa_cons (pv 6) (pa_cons (pv 1) (pa_cons (pv 8) (pa_cons (pv 3) pa_nil))))) (pv 11) (nomark _)) (pss_one (ps_ret pe_bl)) pss_nil)
      (pss_cons (ps_if (pt_cmpR (op_neVK K hr.units) (pe_call GAsk hr rfl gAsk.m gAsk.k gAsk.b .nil pass0 (pa_cons (pv 0) (pa_cons (pv 7) (pa_cons (pv 8) (pa_cons (pv 3) pa_nil))))) (pv 11) (nomark _)) (pss_one (ps_ret pe_bl)) pss_nil)
      (pss_cons (ps_if (PW.pt (pw_or (pt_cmpR (op_neVK K hr.units) (pe_call GAsk hr rfl gAsk.m gAsk.k gAsk.b .nil pass0 (pa_cons (pv 0) (pa_cons (pv 1) (pa_cons (pv 8) (pa_cons (pv 9) pa_nil))))) (pv 10) (nomark _)) (pw_or1 (pt_cmpR (op_neVK K hr.units) (pe_call GAsk hr rfl gAsk.m gAsk.k gAsk.b .nil pass0 (pa_cons (pv 0) (pa_cons (pv 1) (pa_cons (pv 8) (pa_cons (pv 3) pa_nil))))) (pv 10) (nomark _))))) (pss_one (ps_ret pe_bl)) pss_nil)
      (pss_cons (ps_setC (i:=12) (N':=["_law_k"]) (ix:=[none]) scRef.nd rfl rfl rfl rfl (pi_range1 rfl hrange (pa_cons (pe_op op_sub pe_int (pe_callB (call_lenK K) (by rfl) hlen PySem.boot_len (pa_cons (pv 0) pa_nil))) pa_nil)) (fun _ _ _ _ _ _=>(pg_name (i:=0) nd_ref1 rfl (Or.inl rfl))) (fun _ _ _ _ _ _=>pts_nil) (fun _ _ _ _ _ _=>pe_int))
      (pss_cons (ps_if (pt_cmpR (op_neVK K hr.units) (pe_call GAsk hr rfl gAsk.m gAsk.k gAsk.b .nil pass0 (pa_cons (pe_op op_cat (pv 0) (pv 12)) (pa_cons (pe_op op_cat (pv 1) (pv 12)) (pa_cons (pv 2) (pa_cons (pv 3) pa_nil))))) (pv 11) (nomark _)) (pss_one (ps_ret pe_bl)) pss_nil)
      (pss_one (ps_ret (pe_cmpR (op_eqVK K hr.units) (pe_call GAsk hr rfl gAsk.m gAsk.k gAsk.b .nil pass0 (pa_cons (pv 0) (pa_cons (pv 1) (pa_cons (pv 2) (pa_cons (pv 9) pa_nil))))) (pv 11) (nomark _)))))))))))))))),?_⟩
    have ec:(cs.map V.int).length=cs.length:=List.length_map _
    have es:(ss.map V.int).length=ss.length:=List.length_map _
    refine ⟨_,rfl,_,rfl,_,rfl,c,cs,sp,m,rfl,hc,h16,hsp,hm,fun z6 H1 bz6 s1=>?_⟩
    refine ⟨_,rfl,_,rfl,_,rfl,s0,ss,sp,m,rfl,s1 _ _ hs,by omega,hsp,hm,fun z7 H2 bz7 s2=>?_⟩
    have s02:=s1.trans s2
    have bz6':=bz6.keep s2
    dsimp only [gName]
    refine seq_by (fun σ H'=>∃ z7,σ=[some (.ref c),some (.ref s0),some (.int (n:Int)),some (.int N),some (.int (sp:Int)),some (.int (m:Int)),some z6,some z7,none,none,none,none,none]∧Same H H'∧LiBad K H' z6∧(LiBad K H' z7∨∃ ns,LiOk H' z7 ns∧ns.length≠cs.length)) (fun nx hnx=>?_) ?_
    · refine ⟨_,rfl,_,_,rfl,rfl,(show (0:Int) < 2 by decide),rfl,_,rfl,ite2 (fun hc1=>?_) (fun hc1=>hnx _ _ ⟨z7,rfl,s02,bz6',.inl bz7⟩)⟩
      refine ⟨_,rfl,szl (show 1≤1000 by decide),fun a1 n1=>⟨s0,a1,_,_,rfl,rfl,Same.add n1 _ _ (s02 _ _ hs),upd_same,szl (by rw [es];show _+1≤_;omega),fun a2 n2=>?_⟩⟩
      have s4:Same H2 (upd (upd H2 a1 (.lst [V.int 0])) a2 (.lst (ss.map V.int++[V.int 0]))):=(Same.add n1).trans (Same.add n2)
      have e4:upd (upd H2 a1 (.lst [V.int 0])) a2 (.lst (ss.map V.int++[V.int 0])) a2=some (.lst ((ss++[0]).map V.int)):=by rw [upd_same,List.map_append];rfl
      revert s4 e4
      generalize upd (upd H2 a1 (.lst [V.int 0])) a2 (.lst (ss.map V.int++[V.int 0]))=H4
      intro s4 e4
      have l4:(ss++[0]).length=ss.length+1:=by rw [List.length_append];rfl
      have h4:LiBad K H4 (.ref a2)∨∃ ns,LiOk H4 (.ref a2) ns∧ns.length≠cs.length:=by
        by_cases h:ss.length+1≤16
        · exact .inr ⟨_,⟨a2,rfl,e4,by omega⟩,by omega⟩
        · exact .inl (.inr ⟨a2,_,rfl,e4,by rw [List.length_map];omega,.inl (by rw [List.length_map];omega)⟩)
      refine ⟨_,rfl,_,_,rfl,rfl,_,rfl,ite2 (fun hc2=>⟨_,rfl,s0,_,rfl,.inl (SqL.of (s4 _ _ (s02 _ _ hs))),_,_,rfl,rfl,_,rfl,ite2 (fun hc3=>?_) (fun hc3=>hnx _ _ ⟨_,rfl,s02.trans s4,bz6'.keep s4,h4⟩)⟩) (fun hc2=>iteF (hnx _ _ ⟨_,rfl,s02.trans s4,bz6'.keep s4,h4⟩))⟩
      have hp:(0:Int) < (((ss.map V.int).length:Nat):Int):=of_decide_eq_true hc3
      rw [es] at hp
      refine ⟨_,rfl,_,rfl,s0,_,rfl,SqL.of (s4 _ _ (s02 _ _ hs)),fun a3 n3=>?_⟩
      rw [show (some (1:Int))=some ((1:Nat):Int) from rfl,cut_drop,← List.map_drop]
      exact hnx _ _ ⟨_,rfl,(s02.trans s4).trans (Same.add n3),(bz6'.keep s4).keep (Same.add n3),.inr ⟨ss.drop 1,⟨a3,rfl,upd_same,by rw [List.length_drop];omega⟩,by rw [List.length_drop];omega⟩⟩
    rintro σ H3 ⟨z7,rfl,s3,b6,b7⟩
    obtain ⟨va,hva,fa⟩:=pickA (K:=K) (n:=n) hsp
    obtain ⟨vn,hvn,fn⟩:=pickN (K:=K) (N:=N) h0 hsp
    refine ⟨_,rfl,_,_,rfl,rfl,⟨by decide,by decide,by decide⟩,_,rfl,_,rfl,_,_,rfl,rfl,szl (show 6≤1000 by decide),fun L1 nL1=>⟨_,rfl,L1,_,_,_,rfl,rfl,SqL.of upd_same,hva,?_⟩⟩
    have s4:=s3.trans (Same.add (o:=.lst [V.int (-1),V.int ((10:Int) ^ Int.toNat 60),V.bl true,V.str (Str.ofString "3"),V.non,V.int (-(n:Int) - 1)]) nL1)
    have b6:=b6.keep (Same.add (o:=.lst [V.int (-1),V.int ((10:Int) ^ Int.toNat 60),V.bl true,V.str (Str.ofString "3"),V.non,V.int (-(n:Int) - 1)]) nL1)
    have kb7:∀ {X Y:Hp},Same X Y→(LiBad K X z7∨∃ ns,LiOk X z7 ns∧ns.length≠cs.length)→(LiBad K Y z7∨∃ ns,LiOk Y z7 ns∧ns.length≠cs.length):=fun s h=>by
      rcases h with h | ⟨ns,h,e⟩
      · exact .inl (h.keep s)
      · exact .inr ⟨ns,h.keep s,e⟩
    have b7:=kb7 (Same.add (o:=.lst [V.int (-1),V.int ((10:Int) ^ Int.toNat 60),V.bl true,V.str (Str.ofString "3"),V.non,V.int (-(n:Int) - 1)]) nL1) b7
    revert s4 b6 b7
    generalize upd H3 L1 (.lst [V.int (-1),V.int ((10:Int) ^ Int.toNat 60),V.bl true,V.str (Str.ofString "3"),V.non,V.int (-(n:Int) - 1)])=H4
    intro s4 b6 b7
    refine ⟨_,_,rfl,rfl,⟨by decide,by decide,by decide⟩,_,rfl,_,rfl,szl (show 6≤1000 by decide),fun L2 nL2=>⟨_,rfl,L2,_,_,_,rfl,rfl,SqL.of upd_same,hvn,?_⟩⟩
    have s45:=Same.add (o:=.lst [V.int 0,V.int ((10:Int) ^ Int.toNat 30),V.bl true,V.str (Str.ofString "3"),V.non,V.int (-N)]) nL2
    revert s45
    generalize upd H4 L2 (.lst [V.int 0,V.int ((10:Int) ^ Int.toNat 30),V.bl true,V.str (Str.ofString "3"),V.non,V.int (-N)])=H5
    intro s45
    refine ⟨szl (show 3≤1000 by decide),fun la nla=>⟨szl (show 3≤1000 by decide),fun ln nln=>?_⟩⟩
    have s57:Same H5 (upd (upd H5 la (.lst [V.str (Str.ofString "age"),.bl true,.bl false])) ln (.lst [V.str (Str.ofString "number"),.bl true,.bl false])):=(Same.add nla).trans (Same.add nln)
    have hla:upd (upd H5 la (.lst [V.str (Str.ofString "age"),.bl true,.bl false])) ln (.lst [V.str (Str.ofString "number"),.bl true,.bl false]) la=some (.lst [V.str (Str.ofString "age"),.bl true,.bl false]):=Same.add nln _ _ upd_same
    have hln:upd (upd H5 la (.lst [V.str (Str.ofString "age"),.bl true,.bl false])) ln (.lst [V.str (Str.ofString "number"),.bl true,.bl false]) ln=some (.lst [V.str (Str.ofString "number"),.bl true,.bl false]):=upd_same
    revert s57 hla hln
    generalize upd (upd H5 la (.lst [V.str (Str.ofString "age"),.bl true,.bl false])) ln (.lst [V.str (Str.ofString "number"),.bl true,.bl false])=H7
    intro s57 hla hln
    have s47:=s45.trans s57
    have s7:=s4.trans s47
    have b6:=b6.keep s47
    have b7:=kb7 s47 b7
    have okc:∀ {X:Hp},Same H X→LiOk X (.ref c) cs:=fun s=>⟨c,rfl,s _ _ hc,h16⟩
    have oks:∀ {X:Hp},Same H X→LiOk X (.ref s0) ss:=fun s=>⟨s0,rfl,s _ _ hs,by omega⟩
    refine ⟨_,rfl,_,rfl,_,rfl,_,rfl,z6,_,va,.int N,.number,rfl,.inl b6,?_⟩
    rintro x1 X1 q1 ⟨l1,rfl,hl1⟩
    refine ⟨_,rfl,0,l1,ln,rfl,rfl,same_flat hl1 (q1 _ _ hln) (fun x h=>flat3 h),by decide,_,rfl,iteF ?_⟩
    refine ⟨_,rfl,_,rfl,_,rfl,_,rfl,_,z7,va,.int N,.number,rfl,.inr ⟨cs,okc (s7.trans q1),bc,.inl (kb7 q1 b7)⟩,?_⟩
    rintro x2 X2 q2 ⟨l2,rfl,hl2⟩
    have q12:=q1.trans q2
    refine ⟨_,rfl,0,l2,ln,rfl,rfl,same_flat hl2 (q12 _ _ hln) (fun x h=>flat3 h),by decide,_,rfl,iteF ?_⟩
    refine ⟨_,rfl,_,rfl,_,rfl,_,rfl,_,_,va,vn,.age,rfl,⟨cs,ss,okc (s7.trans q12),bc,oks (s7.trans q12),hl,bs,fa _⟩,?_⟩
    rintro x3 X3 q3 ⟨l3,rfl,hl3⟩
    have q13:=q12.trans q3
    refine ⟨_,rfl,0,l3,la,rfl,rfl,same_flat hl3 (q13 _ _ hla) (fun x h=>flat3 h),by decide,_,rfl,iteF ?_⟩
    refine ⟨_,rfl,_,rfl,_,rfl,_,rfl,_,_,va,_,.age,rfl,⟨cs,ss,okc (s7.trans q13),bc,oks (s7.trans q13),hl,bs,fa _⟩,?_⟩
    rintro x4 X4 q4 ⟨l4,rfl,hl4⟩
    have q14:=q13.trans q4
    refine ⟨_,rfl,0,l4,la,rfl,rfl,same_flat hl4 (q14 _ _ hla) (fun x h=>flat3 h),by decide,_,rfl,iteF ?_⟩
    have s14:=s7.trans q14
    rw [tNext]
    dsimp only
    rw [tSeq]
    refine comp_zr (m:=17 - cs.length) rfl (fun R h=>⟨_,rfl,c,_,rfl,.inl (SqL.of (s14 _ _ hc)),_,_,rfl,rfl,(by rw [show (fun i j:Int=>V.int (i - j)) 17 (((cs.map V.int).length:Nat):Int)=V.int ((17 - cs.length:Nat):Int) from congrArg V.int (by rw [ec];omega)];exact h)⟩) (by omega) fun D X5 q5 nD hD=>?_
    have s15:=s14.trans q5
    have lz:((List.replicate (17 - cs.length) (0:Int)).map V.int).length=17 - cs.length:=by rw [List.length_map,List.length_replicate]
    refine ⟨_,rfl,_,rfl,c,D,_,_,rfl,rfl,s15 _ _ hc,hD,szl (by rw [ec,lz];omega),fun a6 n6=>?_⟩
    refine ⟨_,rfl,_,rfl,s0,D,_,_,rfl,rfl,Same.add n6 _ _ (s15 _ _ hs),Same.add n6 _ _ hD,szl (by rw [es,lz];omega),fun a7 n7=>?_⟩
    have q67:Same X5 _:=(Same.add (o:=.lst (cs.map V.int++(List.replicate (17 - cs.length) (0:Int)).map V.int)) n6).trans (Same.add (o:=.lst (ss.map V.int++(List.replicate (17 - cs.length) (0:Int)).map V.int)) n7)
    refine ⟨_,rfl,_,rfl,.ref a6,.ref a7,.int (n:Int),.int N,.number,rfl,.inl (.inr ⟨a6,_,rfl,Same.add n7 _ _ upd_same,by rw [List.length_append,ec,lz];omega,.inl (by rw [List.length_append,ec,lz];omega)⟩),?_⟩
    rintro x8 X8 q8 ⟨l8,rfl,hl8⟩
    have q18:=q14.trans (q5.trans (q67.trans q8))
    refine ⟨_,rfl,0,l8,ln,rfl,rfl,same_flat hl8 (q18 _ _ hln) (fun x h=>flat3 h),by decide,_,rfl,iteF ?_⟩
    have s18:=s7.trans q18
    refine ⟨_,rfl,_,rfl,_,rfl,_,rfl,_,_,.int (n:Int),vn,.number,rfl,.inr ⟨cs,okc s18,bc,.inr ⟨ss,oks s18,hl,bs,⟨n,rfl,by omega⟩,fn _⟩⟩,?_⟩
    rintro x9 X9 q9 ⟨l9,rfl,hl9⟩
    exact ⟨_,rfl,0,l9,ln,rfl,rfl,same_flat hl9 (q9 _ _ (q18 _ _ hln)) (fun x h=>flat3 h),by decide,k _ (s18.trans q9)⟩
end
end Lw
namespace Lw
open PySem L2 PyProof.Rows
theorem seq_asg {te:TE} {g:TG} {u:L2.TS} {D:Ends} {σ:L2.St} {H:Hp} (h:te σ H fun x H1=>g x σ H1 (u D)):tSeq (tAsg te g) u D σ H:=h
theorem comp_sgn {σ:L2.St} {H:Hp} {Q:VK} {p:Addr} {b mn:Nat} {g:Bool} (e:cst [none,some 8,some 4] σ=[none,some (.ref p),some (.bl g)]) (h3:σ[3]? = some (some (.int (mn:Int)))) (hmn:mn≤16) (hP:PenAt H p b) (hb:b≤1000)
    (k:∀ D (cs:List Int) H',cs.length=mn→Bz 200 cs→But p H H'→PenAt H' p (b+100)→H D=none→H' D=some (.lst (cs.map V.int))→Q (.ref D) H') :
    tComp [none,some 8,some 4] (iRng1 (tCons (tVar 3) tNil)) (gName 0) tAll (tCall spSgn [] E0 (tCons (tVar 1) (tCons (tVar 2) tNil))) σ H Q:=by
  refine ⟨_,h3,_,rfl,by omega,by omega,?_⟩
  rw [e,Int.toNat_natCast]
  refine comp_allR (τ0:=[none,some (.ref p),some (.bl g)]) (sure_range (lo:=0) (n:=mn)) (by rw [rngV_length];omega)
    (fun i ys τ H2=>∃ cs:List Int,ys=cs.map V.int∧cs.length=i∧Bz 200 cs∧But p H H2∧PenAt H2 p (b+2 * i)∧∃ v,τ=[v,some (.ref p),some (.bl g)]) ⟨[],rfl,rfl,(fun x hx=>by cases hx),But.refl _ _,hP,_,rfl⟩ ?_ ?_ ?_
  · rintro i ys τ H2 hi ⟨cs,rfl,e,_⟩
    exact ⟨trivial,by rw [List.length_map];omega⟩
  · rintro i y ys τ H2 hy ⟨cs,rfl,el,bz,bt,hP2,v,rfl⟩
    obtain ⟨hi,rfl⟩:=rng_get hy
    refine ⟨_,rfl,_,rfl,p,_,g,rfl,hP2,by omega,fun z H3 hz hP3 e3=>⟨cs++[z],by rw [List.map_append];rfl,by rw [List.length_append,el];rfl,fun x hx=>?_,fun c o h n=>(e3 c n).trans (bt c o h n),hP3,_,rfl⟩⟩
    rcases List.mem_append.mp hx with h | h
    · exact bz x h
    · rw [List.mem_singleton.mp h];exact hz
  · rintro ys τ H2 D ⟨cs,rfl,el,bz,bt,hP2,v,rfl⟩ nD
    rw [rngV_length] at el hP2
    have nDp:D≠p:=by
      obtain ⟨_,_,_,e',_⟩:=hP2.ex
      exact (ne_of_none e' nD).symm
    exact k D cs _ el bz (bt.trans (But.same (Same.add nD))) ((hP2.sm (Same.add nD)).mono (by omega)) (bt.free nDp nD) upd_same
theorem same_tup {K:PySem.W.Frag} {H:Hp} {a b:Addr} {v:Int} (ha:H a=some (.tup [.int v])) (hb:H b=some (.tup [.int v])):VSame K H 1 (.ref a) (.ref b):=by
  refine .seq true (SqT.of ha) (SqT.of hb) rfl fun i x y hx hy=>?_
  rw [hx] at hy
  cases hy
  match i with
  | 0=>cases hx;exact .flat rfl
  | i+1=>cases hx
theorem same_ints {K:PySem.W.Frag} {H:Hp} {a b:Addr} {ns:List Int} (ha:H a=some (.lst (ns.map V.int))) (hb:H b=some (.lst (ns.map V.int))):VSame K H 1 (.ref a) (.ref b) :=
  same_flat ha hb fun x hx=>by
    obtain ⟨n,_,rfl⟩:=List.mem_map.mp hx
    rfl
theorem ixN_at {n j:Nat} (h:j < n):ixN n (j:Int)=some j:=by
  unfold ixN
  rw [if_pos (by omega),if_pos (by omega),Int.toNat_natCast]
theorem pickF {m fr:Nat} (hfr:fr+20 < 1000000000000000000000000000000000000000000000000000000000000):∃ q:Nat,atI [V.int ((10:Int) ^ Int.toNat 60 - 1),V.int (fr:Int)] (if decide ((0:Int) < (m:Int))=true then 1 else 0)=some (V.int (q:Int))∧q < 1000000000000000000000000000000000000000000000000000000000000:=by
  rw [ten60]
  split
  · exact ⟨fr,rfl,by omega⟩
  · exact ⟨999999999999999999999999999999999999999999999999999999999999,rfl,by decide⟩
section
variable {P:Program} {w:World} {K:PySem.W.Frag} {mg:Str→Option Value} {base:Heap}
def spLaw (K:PySem.W.Frag):Sp:=fun vs H Q _=>∃ (a:Addr) (ns:List Int),vs=[.ref a]∧SqL K H a (ns.map V.int)∧ns.length≤63∧∀ H',Q (.bl true) H'
theorem seq_keep {H H':Hp} {a:Addr} {xs:List V} (e:∀ o,H a=some o→H' a=some o) (h:SqL K H a xs):SqL K H' a xs:=by
  rcases h with (h | ⟨o,h⟩) | h
  · exact .inl (.inl (e _ h))
  · exact .inl (.inr ⟨o,e _ h⟩)
  · exact .inr h
theorem scLaw:FnScope ["_law_script","_law_spoil","_law_at","_law_many","_law_great_here","_law_near","_law_far","_law_number_here","_law_pen_here","_law_c","_law_begins","_law_handed","_law_due_here","_law_moved"] ["_law_script"] (defScope sLaw):=⟨rfl,rfl,rfl,by decide +kernel,rfl,by decide +kernel,by decide +kernel⟩
theorem nd_law1:(["_law_k","_law_pen_here","_law_great_here"]:List Str).Nodup:=by decide +kernel
theorem nd_law2:(["_law_k","_law_pen_here","_law_great_here"]:List Str).Nodup:=by decide +kernel
theorem nd_law3:(["_law_i","_law_c","_law_begins"]:List Str).Nodup:=by decide +kernel
theorem ok_law {f fDrw fPen fDue fSgn fAsk fRnd fGre fRef:Addr} {fd fdDrw fdPen fdDue fdSgn fdAsk fdRnd fdGre fdRef:FuncData} (F:Fun K "law" "law" sLaw f fd)
    (GDrw:FnOk P w K mg base CX0 3 fDrw fdDrw ["_law_script"] (spDrw K))
    (gDrw:Gf K mg "_law_draws" fDrw fdDrw ["_law_script"])
    (GPen:FnOk P w K mg base CX0 1 fPen fdPen ["_law_script","_law_k"] (spPen K))
    (gPen:Gf K mg "_law_pen" fPen fdPen ["_law_script","_law_k"])
    (GDue:FnOk P w K mg base CX0 1 fDue fdDue ["_law_c","_law_begins","_law_at_age","_law_number_here"] spDue)
    (gDue:Gf K mg "_law_due" fDue fdDue ["_law_c","_law_begins","_law_at_age","_law_number_here"])
    (GSgn:FnOk P w K mg base CX0 2 fSgn fdSgn ["_law_pen_here","_law_great_here"] spSgn)
    (gSgn:Gf K mg "_law_signed" fSgn fdSgn ["_law_pen_here","_law_great_here"])
    (GAsk:FnOk P w K mg base CX0 5 fAsk fdAsk ["_law_c","_law_begins","_law_at_age","_law_number_here"] (spAsk K))
    (gAsk:Gf K mg "_law_asked" fAsk fdAsk ["_law_c","_law_begins","_law_at_age","_law_number_here"])
    (GRnd:FnOk P w K mg base CX0 6 fRnd fdRnd ["_law_c","_law_begins","_law_at_age","_law_number_here"] (spRnd K))
    (gRnd:Gf K mg "_law_round" fRnd fdRnd ["_law_c","_law_begins","_law_at_age","_law_number_here"])
    (GGre:FnOk P w K mg base CX0 6 fGre fdGre ["_law_c","_law_begins","_law_at_age","_law_number_here"] (spGre K))
    (gGre:Gf K mg "_law_great" fGre fdGre ["_law_c","_law_begins","_law_at_age","_law_number_here"])
    (GRef:FnOk P w K mg base CX0 6 fRef fdRef ["_law_c","_law_begins","_law_at_age","_law_number_here","_law_spoil","_law_at"] (spRef K))
    (gRef:Gf K mg "_law_refused" fRef fdRef ["_law_c","_law_begins","_law_at_age","_law_number_here","_law_spoil","_law_at"])
    (hrange:mg "range" = none)
    (hsum:mg "sum" = none)
    (hint:mg "int" = none)
    (hlist:mg "list" = none)
    : FnOk P w K mg base CX0 7 f fd ["_law_script"] (spLaw K):=by
  refine F.ok scLaw (fun vs H Q E h=>?_) (fun cdv A outer s H vs Q E hr h=>?_)
  · obtain ⟨a,ns,rfl,_⟩:=h
    rfl
  · obtain ⟨a,ns,rfl,hS,h63,k⟩:=h
    have hr1:Room 1 _:=hr.mono (by decide)
    have hr2:Room 2 _:=hr.mono (by decide)
    have hr3:Room 3 _:=hr.mono (by decide)
    have hr5:Room 5 _:=hr.mono (by decide)
    refine ⟨_,(pss_cons (ps_asg (pe_call GDrw hr3 rfl gDrw.m gDrw.k gDrw.b .nil pass0 (pa_cons (pv 0) pa_nil)) (pg_tupK K (n:=7) rfl (pgs_cons (pg_name (i:=1) scLaw.nd rfl (Or.inl rfl)) (pgs_cons (pg_name (i:=2) scLaw.nd rfl (Or.inl rfl)) (pgs_cons (pg_name (i:=3) scLaw.nd rfl (Or.inl rfl)) (pgs_cons (pg_name (i:=4) scLaw.nd rfl (Or.inr rfl)) (pgs_cons (pg_name (i:=5) scLaw.nd rfl (Or.inl rfl)) (pgs_cons (pg_name (i:=6) scLaw.nd rfl (Or.inl rfl)) (pgs_cons (pg_name (i:=7) scLaw.nd rfl (Or.inl rfl)) pgs_nil)))))))))
      (pss_cons (ps_set (i:=8) scLaw.nd rfl (Or.inr rfl) (pe_call GPen hr1 rfl gPen.m gPen.k gPen.b .nil pass0 (pa_cons (pv 0) (pa_cons pe_int pa_nil))))
      (pss_cons (ps_set (i:=9) scLaw.nd rfl (Or.inr rfl) (pe_comp (N':=["_law_k","_law_pen_here","_law_great_here"]) (ix:=[none,some 8,some 4]) rfl rfl (pi_range1 rfl hrange (pa_cons (pv 3) pa_nil)) (fun _ _ _ _ _ _=>(pg_name (i:=0) nd_law1 rfl (Or.inl rfl))) (fun _ _ _ _ _ _=>pts_nil) (fun _ _ _ _ _ _=>(pe_call GSgn hr2 rfl gSgn.m gSgn.k gSgn.b .nil pass0 (pa_cons (pv 1) (pa_cons (pv 2) pa_nil))))))
      (pss_cons (ps_set (i:=10) scLaw.nd rfl (Or.inr rfl) (pe_comp (N':=["_law_k","_law_pen_here","_law_great_here"]) (ix:=[none,some 8,some 4]) rfl rfl (pi_range1 rfl hrange (pa_cons (pv 3) pa_nil)) (fun _ _ _ _ _ _=>(pg_name (i:=0) nd_law2 rfl (Or.inl rfl))) (fun _ _ _ _ _ _=>pts_nil) (fun _ _ _ _ _ _=>(pe_call GSgn hr2 rfl gSgn.m gSgn.k gSgn.b .nil pass0 (pa_cons (pv 1) (pa_cons (pv 2) pa_nil))))))
      (pss_cons (ps_set (i:=11) scLaw.nd rfl (Or.inl rfl) (pe_lst (pa_cons (pe_callTy (call_list_ofK K) (by rfl) hlist (by first | exact PySem.boot_list | decide +kernel) (pa_cons (pv 9) pa_nil)) (pa_cons (pe_callTy (call_list_ofK K) (by rfl) hlist (by first | exact PySem.boot_list | decide +kernel) (pa_cons (pv 10) pa_nil)) pa_nil))))
      (pss_cons (ps_set (i:=12) scLaw.nd rfl (Or.inl rfl) (pe_call GDue hr1 rfl gDue.m gDue.k gDue.b .nil pass0 (pa_cons (pv 9) (pa_cons (pv 10) (pa_cons (pv 5) (pa_cons (pv 7) pa_nil))))))
      (pss_cons (ps_if (pt_cmpR (op_neVK K hr.units) (pe_call GAsk hr5 rfl gAsk.m gAsk.k gAsk.b .nil pass0 (pa_cons (pe_ix (ix_listK K) (pv 11) pe_int (fun _ _=>rfl)) (pa_cons (pe_ix (ix_listK K) (pv 11) pe_int (fun _ _=>rfl)) (pa_cons (pv 5) (pa_cons (pv 7) pa_nil))))) (pe_tup (pa_cons (pv 12) pa_nil)) (nomark _)) (pss_one (ps_ret pe_bl)) pss_nil)
      (pss_cons (ps_set (i:=13) scLaw.nd rfl (Or.inl rfl) (pe_slice (sl_listK K) (pv 10) (po_some pe_int) po_none))
      (pss_cons (ps_if (pt_cmpR op_gt (pv 3) pe_int (nomark _)) (pss_one (ps_expr (pe_bmK K PySem.F.plainAttrs_list PySem.F.slot_list_append PySem.F.type_list_append mt_append (pv 13) (pa_cons (pe_callB (call_sumK2 K rfl) (by rfl) hsum (by first | exact PySem.boot_sum | decide +kernel) (pa_cons (pe_comp (N':=["_law_i","_law_c","_law_begins"]) (ix:=[none,some 9,some 10]) rfl rfl (pi_range1 rfl hrange (pa_cons (pv 3) pa_nil)) (fun _ _ _ _ _ _=>(pg_name (i:=0) nd_law3 rfl (Or.inl rfl))) (fun _ _ _ _ _ _=>pts_nil) (fun _ _ _ _ _ _=>(pe_op op_mulB (pe_ix (ix_listK K) (pv 1) (pv 0) (fun _ _=>rfl)) (pe_ix (ix_listK K) (pv 2) (pv 0) (fun _ _=>rfl))))) pa_nil)) pa_nil)))) pss_nil)
      (pss_cons (ps_if (pt_cmpR (op_neVK K hr.units) (pe_call GAsk hr5 rfl gAsk.m gAsk.k gAsk.b .nil pass0 (pa_cons (pv 9) (pa_cons (pv 13) (pa_cons (pv 5) (pa_cons (pv 7) pa_nil))))) (pe_tup (pa_cons (pe_call GDue hr1 rfl gDue.m gDue.k gDue.b .nil pass0 (pa_cons (pv 9) (pa_cons (pv 10) (pa_cons (pe_op op_add (pv 5) pe_int) (pa_cons (pv 7) pa_nil))))) pa_nil)) (nomark _)) (pss_one (ps_ret pe_bl)) pss_nil)
      (pss_cons (ps_if (pt_not (pt_val (pe_call GRnd hr rfl gRnd.m gRnd.k gRnd.b .nil pass0 (pa_cons (pv 9) (pa_cons (pv 10) (pa_cons (pe_ix (ix_listK K) (pe_lst (pa_cons (pe_op op_sub (pe_op op_pow pe_int pe_int) pe_int) (pa_cons (pv 6) pa_nil))) (pe_callTy call_int1 (by rfl) hint (by first | exact PySem.boot_int | decide +kernel) (pa_cons (pe_cmpR op_gt (pv 2) pe_int (nomark _)) pa_nil)) (fun _ _=>rfl)) (pa_cons (pv 7) pa_nil))))))) (pss_one (ps_ret pe_bl)) pss_nil)
      (pss_cons (ps_if (pt_cmpR op_gt (pv 3) pe_int (nomark _)) (pss_one (ps_set (i:=6) scLaw.nd rfl (Or.inl rfl) (pe_op op_mod (pv 6) pe_int))) pss_nil)
      (pss_cons (ps_if (pt_not (pt_val (pe_call GGre hr rfl gGre.m gGre.k gGre.b .nil pass0 (pa_cons (pv 9) (pa_cons (pv 10) (pa_cons (pv 6) (pa_cons (pv 7) pa_nil))))))) (pss_one (ps_ret pe_bl)) pss_nil)
      (pss_cons (ps_if (pt_not (pt_val (pe_call GRef hr rfl gRef.m gRef.k gRef.b .nil pass0 (pa_cons (pv 9) (pa_cons (pv 10) (pa_cons (pv 5) (pa_cons (pv 7) (pa_cons (pv 1) (pa_cons (pv 2) pa_nil))))))))) (pss_one (ps_ret pe_bl)) pss_nil)
      (pss_cons (ps_if (PW.pt (pw_or (pt_cmpR (op_neVK K hr.units) (pv 11) (pe_lst (pa_cons (pv 9) (pa_cons (pv 10) pa_nil))) (nomark _)) (pw_or1 (pt_cmpR (op_neVK K hr.units) (pe_call GAsk hr5 rfl gAsk.m gAsk.k gAsk.b .nil pass0 (pa_cons (pe_ix (ix_listK K) (pv 11) pe_int (fun _ _=>rfl)) (pa_cons (pe_ix (ix_listK K) (pv 11) pe_int (fun _ _=>rfl)) (pa_cons (pv 5) (pa_cons (pv 7) pa_nil))))) (pe_tup (pa_cons (pv 12) pa_nil)) (nomark _))))) (pss_one (ps_ret pe_bl)) pss_nil)
      (pss_cons (ps_if (pt_cmpR op_gt (pv 3) pe_int (nomark _)) (pss_cons (ps_asg (pe_op op_add (pe_ix (ix_listK K) (pe_ix (ix_listK K) (pv 11) pe_int (fun _ _=>rfl)) (pe_op op_mod (pv 2) (pv 3)) (fun _ _=>rfl)) pe_int) (pg_sub (pe_ix (ix_listK K) (pv 11) pe_int (fun _ _=>rfl)) (pe_op op_mod (pv 2) (pv 3)) set_list))
      (pss_one (ps_set (i:=12) scLaw.nd rfl (Or.inl rfl) (pe_call GDue hr1 rfl gDue.m gDue.k gDue.b .nil pass0 (pa_cons (pv 9) (pa_cons (pe_ix (ix_listK K) (pv 11) pe_int (fun _ _=>rfl)) (pa_cons (pv 5) (pa_cons (pv 7) pa_nil)))))))) pss_nil)
      (pss_one (ps_ret (pe_cmpR (op_eqVK K hr.units) (pe_call GAsk hr5 rfl gAsk.m gAsk.k gAsk.b .nil pass0 (pa_cons (pe_ix (ix_listK K) (pv 11) pe_int (fun _ _=>rfl)) (pa_cons (pe_ix (ix_listK K) (pv 11) pe_int (fun _ _=>rfl)) (pa_cons (pv 5) (pa_cons (pv 7) pa_nil))))) (pe_tup (pa_cons (pv 12) pa_nil)) (nomark _)))))))))))))))))))),?_⟩
    refine ⟨_,rfl,a,ns,rfl,hS,h63,fun T sp m mn g nr fr N H1 hsp hm hmn hnr hfr n0 n1 s1 hT=>?_⟩
    refine ⟨T,_,rfl,SqT.of hT,rfl,_,_,rfl,_,_,rfl,_,_,rfl,_,_,rfl,_,_,rfl,_,_,rfl,_,_,rfl,rfl,?_⟩
    refine ⟨_,rfl,a,ns,0,rfl,seq_keep (fun o h=>s1 _ _ h) hS,h63,by omega,by omega,fun p H2 s2 np hP=>?_⟩
    dsimp only [gName,gCons,gNil]
    refine seq_asg (comp_sgn rfl rfl hmn hP (by omega) fun c cs H3 lc bc b3 hP3 nc hc=>?_)
    dsimp only [gName]
    refine seq_asg (comp_sgn rfl rfl hmn hP3 (by omega) fun s0 ss H4 ls bs b4 hP4 ns0 hs=>?_)
    have ncp:c≠p:=by
      obtain ⟨_,_,_,e',_⟩:=hP.ex
      exact (ne_of_none e' nc).symm
    have hc:=b4 _ _ hc ncp
    have hl:ss.length=cs.length:=by omega
    have h16:cs.length≤16:=by omega
    have ec:(cs.map V.int).length=cs.length:=List.length_map _
    have es:(ss.map V.int).length=ss.length:=List.length_map _
    clear hP hP3 hP4 b3 b4 nc ns0 np s2 s1 hT hS
    dsimp only [gName]
    refine ⟨_,rfl,c,_,rfl,.inl (SqL.of hc),fun h1 nh1=>⟨_,rfl,s0,_,rfl,.inl (SqL.of (Same.add nh1 _ _ hs)),fun h2 nh2=>⟨szl (show 2≤1000 by decide),fun lh nlh=>?_⟩⟩⟩
    have s5:Same H4 (upd (upd (upd H4 h1 (.lst (cs.map V.int))) h2 (.lst (ss.map V.int))) lh (.lst [.ref h1,.ref h2])):=(Same.add nh1).trans ((Same.add nh2).trans (Same.add nlh))
    have e1:upd (upd (upd H4 h1 (.lst (cs.map V.int))) h2 (.lst (ss.map V.int))) lh (.lst [.ref h1,.ref h2]) h1=some (.lst (cs.map V.int)):=((Same.add nh2).trans (Same.add nlh)) _ _ upd_same
    have e2:upd (upd (upd H4 h1 (.lst (cs.map V.int))) h2 (.lst (ss.map V.int))) lh (.lst [.ref h1,.ref h2]) h2=some (.lst (ss.map V.int)):=Same.add nlh _ _ upd_same
    have el:upd (upd (upd H4 h1 (.lst (cs.map V.int))) h2 (.lst (ss.map V.int))) lh (.lst [.ref h1,.ref h2]) lh=some (.lst [.ref h1,.ref h2]):=upd_same
    have d21:h2≠h1:=(ne_of_none (show _=some (HO.lst (cs.map V.int)) from upd_same) nh2).symm
    have dl2:lh≠h2:=(ne_of_none (show _=some (HO.lst (ss.map V.int)) from upd_same) nlh).symm
    have d2c:h2≠c:=(ne_of_none (Same.add nh1 _ _ hc) nh2).symm
    revert s5 e1 e2 el
    generalize upd (upd (upd H4 h1 (.lst (cs.map V.int))) h2 (.lst (ss.map V.int))) lh (.lst [.ref h1,.ref h2])=H5
    intro s5 e1 e2 el
    have hc:=s5 _ _ hc
    have hs:=s5 _ _ hs
    clear s5 nh1 nh2 nlh
    have bc5:Bz 5000 cs:=bc.mono (by decide)
    have bs5:Bz 5000 ss:=bs.mono (by decide)
    have ans:∀ {X:Hp} {x y:Addr} {us:List Int} {q:Nat},X x=some (.lst (cs.map V.int))→X y=some (.lst (us.map V.int))→us.length=cs.length→Bz 5000 us→q < 1000000000000000000000000000000000000000000000000000000000000→AnsIn K X (.ref x) (.ref y) (.int (q:Int)) (.int N) (.told (xN cs us q % N)):=fun x1 x2 x3 x4 x5=>⟨cs,_,⟨_,rfl,x1,h16⟩,bc5,⟨_,rfl,x2,by omega⟩,x3,x4,_,N,rfl,x5,rfl,n0,n1,rfl⟩
    refine ⟨_,rfl,_,rfl,_,rfl,_,rfl,c,s0,cs,ss,nr,N,rfl,hc,hs,hl,h16,bc,bs.mono (by decide),by omega,n0,fun H6 s6=>?_⟩
    refine ⟨_,rfl,lh,_,_,_,rfl,rfl,SqL.of (s6 _ _ el),atI_nat (j:=0) rfl,_,rfl,lh,_,_,_,rfl,rfl,SqL.of (s6 _ _ el),atI_nat (j:=1) rfl,_,rfl,_,rfl,_,_,_,_,_,rfl,ans (s6 _ _ e1) (s6 _ _ e2) hl bs5 (by omega),?_⟩
    rintro z7 H7 s7 ⟨T7,rfl,hT7⟩
    refine ⟨_,rfl,szl (show 1≤1000 by decide),fun T8 nT8=>⟨0,T7,T8,rfl,rfl,same_tup (Same.add nT8 _ _ hT7) upd_same,by decide,_,rfl,iteF ?_⟩⟩
    have s8:=(s6.trans s7).trans (Same.add (o:=.tup [V.int (xN cs ss nr % N)]) nT8)
    revert s8
    generalize upd H7 T8 (.tup [V.int (xN cs ss nr % N)])=H8
    intro s8
    clear s6 s7 hT7 nT8
    refine ⟨_,rfl,_,rfl,s0,_,rfl,SqL.of (s8 _ _ hs),fun lm nlm=>?_⟩
    rw [show (some (1:Int))=some ((1:Nat):Int) from rfl,cut_drop,← List.map_drop]
    dsimp only [gName]
    have fresh:H5 lm=none:=s8.free nlm
    refine seq_by (fun σ H'=>∃ ms:List Int,σ=[some (.ref a),some (.int (sp:Int)),some (.int (m:Int)),some (.int (mn:Int)),some (.bl g),some (.int (nr:Int)),some (.int (fr:Int)),some (.int N),some (.ref p),some (.ref c),some (.ref s0),some (.ref lh),some (.int (xN cs ss nr % N)),some (.ref lm)]∧Same H5 H'∧H' lm=some (.lst (ms.map V.int))∧ms.length=cs.length∧Bz 5000 ms∧∀ q,xN cs ms q=xN cs ss (q+1)) (fun nx hnx=>?_) ?_
    · refine ⟨_,rfl,_,_,rfl,rfl,_,rfl,ite2 (fun hc1=>?_) (fun hc1=>?_)⟩
      · have hp:(0:Int) < (mn:Int):=of_decide_eq_true hc1
        have hpos:0 < cs.length:=by omega
        have sm:=Same.add (o:=.lst ((ss.drop 1).map V.int)) nlm
        have hlm:upd H8 lm (.lst ((ss.drop 1).map V.int)) lm=some (.lst ((ss.drop 1).map V.int)):=upd_same
        revert sm hlm
        generalize upd H8 lm (.lst ((ss.drop 1).map V.int))=H9
        intro sm hlm
        have s9:=s8.trans sm
        have lz:(List.zipWith (· * ·) cs ss).length=mn:=by rw [List.length_zipWith];omega
        refine ⟨_,rfl,.inl ⟨rfl,_,SqL.of hlm⟩,_,rfl,_,rfl,by omega,by omega,?_⟩
        rw [Int.toNat_natCast]
        refine comp_allR (τ0:=[none,some (.ref c),some (.ref s0)]) (sure_range (lo:=0) (n:=mn)) (by rw [rngV_length];omega)
          (fun j ys τ H3=>H3=H9∧(∃ v,τ=[v,some (.ref c),some (.ref s0)])∧ys=((List.zipWith (· * ·) cs ss).take j).map V.int) ⟨rfl,⟨_,rfl⟩,rfl⟩ ?_ ?_ ?_
        · rintro j ys τ H3 hj ⟨rfl,_,rfl⟩
          exact ⟨trivial,by rw [List.length_map,List.length_take];omega⟩
        · rintro j y ys τ H3 hy ⟨rfl,⟨v,rfl⟩,rfl⟩
          obtain ⟨hj,rfl⟩:=rng_get hy
          have j1:j < cs.length:=by omega
          have j2:j < ss.length:=by omega
          have g1:(cs.map V.int)[j]? = some (V.int cs[j]):=by rw [List.getElem?_map,List.getElem?_eq_getElem j1];rfl
          have g2:(ss.map V.int)[j]? = some (V.int ss[j]):=by rw [List.getElem?_map,List.getElem?_eq_getElem j2];rfl
          have k1:=bits20 (bc _ (List.getElem_mem j1)) (by decide)
          have k2:=bits20 (bs _ (List.getElem_mem j2)) (by decide)
          refine ⟨_,rfl,_,rfl,c,_,_,_,rfl,rfl,SqL.of (s9 _ _ hc),atI_nat g1,_,rfl,_,rfl,s0,_,_,_,rfl,rfl,SqL.of (s9 _ _ hs),atI_nat g2,_,_,rfl,rfl,⟨k1,k2⟩,rfl,⟨_,rfl⟩,?_⟩
          have g3:(List.zipWith (· * ·) cs ss)[j]? = some (cs[j] * ss[j]):=by rw [List.getElem?_zipWith,List.getElem?_eq_getElem j1,List.getElem?_eq_getElem j2]
          rw [List.take_add_one,g3,List.map_append]
          rfl
        · rintro ys τ H3 D ⟨rfl,_,rfl⟩ nD
          rw [rngV_length,List.take_of_length_le (by omega)]
          have sD:=Same.add (o:=.lst ((List.zipWith (· * ·) cs ss).map V.int)) nD
          refine ⟨D,_,rfl,SqL.of upd_same,lm,_,_,rfl,rfl,sD _ _ hlm,szl (by rw [List.length_map,List.length_drop];omega),hnx _ _ ⟨stp cs ss,rfl,same_upd (s9.trans sD) fresh,?_,stp_len hl hpos,fun x hx=>?_,fun q=>?_⟩⟩
          · rw [upd_same]
            unfold stp
            rw [List.map_append,← List.drop_one]
            rfl
          · rcases List.mem_append.mp (show x∈ss.tail++[dot cs ss] from hx) with h | h
            · exact bs5 x (List.mem_of_mem_tail h)
            · rw [List.mem_singleton.mp h]
              exact Nat.lt_of_lt_of_le (dot_lt bc bs h16) (Nat.pow_le_pow_right (by decide) (by decide))
          · have:=xN_add cs ss 1 q
            rw [Nat.add_comm 1 q] at this
            exact this
      · have h0:mn=0:=by
          by_cases h:mn=0
          · exact h
          · exact absurd (decide_eq_true (show (0:Int) < (mn:Int) by omega)) hc1
        have e1:cs=[]:=List.length_eq_zero_iff.mp (by omega)
        have e2:ss=[]:=List.length_eq_zero_iff.mp (by omega)
        subst e1 e2
        exact hnx _ _ ⟨[],rfl,s8.trans (Same.add nlm),upd_same,rfl,(fun x hx=>by cases hx),fun q=>by rw [xN_nil,xN_nil]⟩
    rintro σ H9 ⟨ms,rfl,s9,hms,lms,bms,vms⟩
    refine ⟨_,rfl,_,rfl,_,rfl,_,rfl,_,_,_,_,_,rfl,ans (s9 _ _ hc) hms lms bms (by omega),?_⟩
    rintro z10 H10 s10 ⟨T10,rfl,hT10⟩
    have s010:=s9.trans s10
    rw [vms] at hT10
    refine ⟨_,rfl,_,rfl,_,rfl,_,_,rfl,rfl,_,rfl,c,s0,cs,ss,nr+1,N,rfl,s010 _ _ hc,s010 _ _ hs,hl,h16,bc,bs.mono (by decide),by omega,n0,fun H11 s11=>⟨szl (show 1≤1000 by decide),fun T11 nT11=>⟨0,T10,T11,rfl,rfl,same_tup (Same.add nT11 _ _ (s11 _ _ hT10)) upd_same,by decide,_,rfl,iteF ?_⟩⟩⟩
    have s11':=(s010.trans s11).trans (Same.add (o:=.tup [V.int (xN cs ss (nr+1) % N)]) nT11)
    revert s11'
    generalize upd H11 T11 (.tup [V.int (xN cs ss (nr+1) % N)])=H12
    intro s12
    clear hT10 s11 s10 s9 hms s010 nT11 s8 nlm fresh
    obtain ⟨q,hq,hq60⟩:=pickF (m:=m) hfr
    refine ⟨_,rfl,_,rfl,_,_,rfl,rfl,⟨by decide,by decide,by decide⟩,_,_,rfl,rfl,_,rfl,szl (show 2≤1000 by decide),fun L nL=>⟨_,rfl,_,_,rfl,rfl,.inr ⟨_,rfl,L,_,_,_,rfl,rfl,SqL.of upd_same,hq,_,rfl,c,s0,cs,ss,q,N,rfl,(s12.trans (Same.add nL)) _ _ hc,(s12.trans (Same.add nL)) _ _ hs,hl,h16,bc,bs5,hq60,n0,n1,fun H13 s13=>⟨_,rfl,iteF ?_⟩⟩⟩⟩
    have s13':=(s12.trans (Same.add (o:=.lst [V.int ((10:Int) ^ Int.toNat 60 - 1),V.int (fr:Int)]) nL)).trans s13
    clear s13 s12 nL
    dsimp only [tNext]
    refine seq_by (fun σ H'=>H'=H13∧∃ f':Nat,σ=[some (.ref a),some (.int (sp:Int)),some (.int (m:Int)),some (.int (mn:Int)),some (.bl g),some (.int (nr:Int)),some (.int (f':Int)),some (.int N),some (.ref p),some (.ref c),some (.ref s0),some (.ref lh),some (.int (xN cs ss nr % N)),some (.ref lm)]∧f' + 20 < 1000000000000000000000000000000000000000000000000000000000000) (fun nx hnx=>?_) ?_
    · refine ⟨_,rfl,_,_,rfl,rfl,_,rfl,ite2 (fun hc1=>?_) (fun hc1=>hnx _ _ ⟨rfl,fr,rfl,hfr⟩)⟩
      refine ⟨_,rfl,_,_,rfl,rfl,(show (0:Int) < 10007 by decide),?_⟩
      rw [show (fun i j:Int=>V.int (i % j)) (fr:Int) 10007=V.int ((fr % 10007:Nat):Int) from congrArg V.int (by omega)]
      exact hnx _ _ ⟨rfl,fr % 10007,rfl,by omega⟩
    rintro σ H14 ⟨rfl,f',rfl,hf'⟩
    refine ⟨_,rfl,_,rfl,_,rfl,_,rfl,c,s0,cs,ss,f',N,rfl,s13' _ _ hc,s13' _ _ hs,hl,h16,bc5,bs5,by omega,n0,n1,fun H15 s15=>⟨_,rfl,iteF ?_⟩⟩
    have s15':=s13'.trans s15
    refine ⟨_,rfl,_,rfl,_,rfl,_,rfl,_,rfl,_,rfl,c,s0,cs,ss,nr,N,sp,m,rfl,s15' _ _ hc,s15' _ _ hs,hl,h16,bc5,bs5,by omega,n0,n1,hsp,hm,fun H16 s16=>⟨_,rfl,iteF ?_⟩⟩
    have s16':=s15'.trans s16
    refine ⟨_,rfl,_,rfl,_,rfl,szl (show 2≤1000 by decide),fun L2 nL2=>⟨1,lh,L2,rfl,rfl,?_,by decide,_,rfl,iteF ?_⟩⟩
    · have sL:=s16'.trans (Same.add (o:=.lst [.ref c,.ref s0]) nL2)
      refine .seq false (SqL.of (sL _ _ el)) (SqL.of upd_same) rfl fun i x y hx hy=>?_
      match i with
      | 0=>cases hx;cases hy;exact same_ints (sL _ _ e1) (sL _ _ hc)
      | 1=>cases hx;cases hy;exact same_ints (sL _ _ e2) (sL _ _ hs)
      | i+2=>cases hx
    have s17:=s16'.trans (Same.add (o:=.lst [.ref c,.ref s0]) nL2)
    revert s17
    generalize upd H16 L2 (.lst [.ref c,.ref s0])=H17
    intro s17
    clear s16' s16 s15' s15 s13'
    refine ⟨_,rfl,lh,_,_,_,rfl,rfl,SqL.of (s17 _ _ el),atI_nat (j:=0) rfl,_,rfl,lh,_,_,_,rfl,rfl,SqL.of (s17 _ _ el),atI_nat (j:=1) rfl,_,rfl,_,rfl,_,_,_,_,_,rfl,ans (s17 _ _ e1) (s17 _ _ e2) hl bs5 (by omega),?_⟩
    rintro z18 H18 s18 ⟨T18,rfl,hT18⟩
    refine ⟨_,rfl,szl (show 1≤1000 by decide),fun T19 nT19=>⟨0,T18,T19,rfl,rfl,same_tup (Same.add nT19 _ _ hT18) upd_same,by decide,_,rfl,iteF ?_⟩⟩
    have s19:=(s17.trans s18).trans (Same.add (o:=.tup [V.int (xN cs ss nr % N)]) nT19)
    revert s19
    generalize upd H18 T19 (.tup [V.int (xN cs ss nr % N)])=H19
    intro s19
    clear s17 s18 hT18 nT19
    dsimp only [tNext]
    refine seq_by (fun σ H'=>∃ us:List Int,σ=[some (.ref a),some (.int (sp:Int)),some (.int (m:Int)),some (.int (mn:Int)),some (.bl g),some (.int (nr:Int)),some (.int (f':Int)),some (.int N),some (.ref p),some (.ref c),some (.ref s0),some (.ref lh),some (.int (xN cs us nr % N)),some (.ref lm)]∧H' lh=some (.lst [.ref h1,.ref h2])∧H' h1=some (.lst (cs.map V.int))∧H' h2=some (.lst (us.map V.int))∧us.length=cs.length∧Bz 5000 us) (fun nx hnx=>?_) ?_
    · refine ⟨_,rfl,_,_,rfl,rfl,_,rfl,ite2 (fun hc1=>?_) (fun hc1=>hnx _ _ ⟨ss,rfl,s19 _ _ el,s19 _ _ e1,s19 _ _ e2,hl,bs5⟩)⟩
      have hp:(0:Int) < (mn:Int):=of_decide_eq_true hc1
      have hj:m % mn < ss.length:=by rw [ls];exact Nat.mod_lt _ (by omega)
      have em:((m:Int) % (mn:Int))=((m % mn:Nat):Int):=(Int.natCast_emod m mn).symm
      have g2:(ss.map V.int)[m % mn]? = some (V.int ss[m % mn]):=by rw [List.getElem?_map,List.getElem?_eq_getElem hj];rfl
      refine ⟨_,rfl,lh,_,_,_,rfl,rfl,SqL.of (s19 _ _ el),atI_nat (j:=1) rfl,_,rfl,_,rfl,_,_,rfl,rfl,hp,h2,_,_,_,rfl,rfl,SqL.of (s19 _ _ e2),(by rw [em];exact atI_nat g2),_,_,rfl,rfl,?_⟩
      refine ⟨_,rfl,lh,_,_,_,rfl,rfl,SqL.of (s19 _ _ el),atI_nat (j:=1) rfl,_,rfl,_,rfl,_,_,rfl,rfl,hp,h2,_,_,m % mn,rfl,rfl,s19 _ _ e2,(by rw [em];exact ixN_at (by rw [es];exact hj)),?_⟩
      have bse:Bz 1000 (ss.set (m % mn) (ss[m % mn]+1)):=fun x hx=>by
        have h200:(2:Nat) ^ 200+1 < 2 ^ 1000:=by decide +kernel
        rcases List.mem_or_eq_of_mem_set hx with h | h
        · have:=bs x h
          omega
        · have:=bs _ (List.getElem_mem hj)
          rw [h]
          omega
      have hset:(ss.map V.int).set (m % mn) (V.int (ss[m % mn]+1))=(ss.set (m % mn) (ss[m % mn]+1)).map V.int:=by rw [List.map_set]
      have lse:(ss.set (m % mn) (ss[m % mn]+1)).length=cs.length:=by rw [List.length_set];exact hl
      have u2:upd H19 h2 (.lst ((ss.map V.int).set (m % mn) (V.int (ss[m % mn]+1)))) h2=some (.lst ((ss.set (m % mn) (ss[m % mn]+1)).map V.int)):=by rw [upd_same,hset]
      have ul:upd H19 h2 (.lst ((ss.map V.int).set (m % mn) (V.int (ss[m % mn]+1)))) lh=some (.lst [.ref h1,.ref h2]):=by rw [upd_ne dl2];exact s19 _ _ el
      have u1:upd H19 h2 (.lst ((ss.map V.int).set (m % mn) (V.int (ss[m % mn]+1)))) h1=some (.lst (cs.map V.int)):=by rw [upd_ne d21.symm];exact s19 _ _ e1
      have uc:upd H19 h2 (.lst ((ss.map V.int).set (m % mn) (V.int (ss[m % mn]+1)))) c=some (.lst (cs.map V.int)):=by rw [upd_ne d2c.symm];exact s19 _ _ hc
      revert u2 ul u1 uc
      generalize upd H19 h2 (.lst ((ss.map V.int).set (m % mn) (V.int (ss[m % mn]+1))))=H20
      intro u2 ul u1 uc
      refine ⟨_,rfl,_,rfl,lh,_,_,_,rfl,rfl,SqL.of ul,atI_nat (j:=1) rfl,_,rfl,_,rfl,c,h2,cs,_,nr,N,rfl,uc,u2,lse,h16,bc,bse,by omega,n0,fun H21 s21=>?_⟩
      exact hnx _ _ ⟨_,rfl,s21 _ _ ul,s21 _ _ u1,s21 _ _ u2,lse,bse.mono (by decide)⟩
    rintro σ H20 ⟨us,rfl,ul,u1,u2,lus,bus⟩
    refine ⟨_,rfl,lh,_,_,_,rfl,rfl,SqL.of ul,atI_nat (j:=0) rfl,_,rfl,lh,_,_,_,rfl,rfl,SqL.of ul,atI_nat (j:=1) rfl,_,rfl,_,rfl,_,_,_,_,_,rfl,ans u1 u2 lus bus (by omega),?_⟩
    rintro z21 H21 s21 ⟨T21,rfl,hT21⟩
    exact ⟨_,rfl,szl (show 1≤1000 by decide),fun T22 nT22=>⟨0,T21,T22,rfl,rfl,same_tup (Same.add nT22 _ _ hT21) upd_same,by decide,k _⟩⟩
end
end Lw
namespace Lw
open PySem L2 PyProof.Rows PySem.W
theorem own_mk {K:PySem.W.Frag} {h:Heap} {mg:Str→Option Value} {x:Str} {C:Addr} {bmB:List Value} {newId:String} (X:K.In h) (G:h.Ns mainGlobals mg) (e:nsIn K mainGlobals x=some (some (.ref C))) (q:excIn K C bmB newId=true):OwnCls x C bmB newId mg h:=by
  refine ⟨mg_of X G e,?_⟩
  unfold excIn at q
  split at q
  · rename_i dd cd sl hobj
    split at q
    · rename_i C2 bm2 s0 s1 s2 s3 nid s5 hmro hslots
      simp only [Bool.and_eq_true,beq_iff_eq,Bool.not_eq_true'] at q
      obtain ⟨⟨⟨⟨⟨rfl,rfl⟩,hdl⟩,htl⟩,hns⟩,hin⟩:=q
      obtain ⟨nm,bs,mro,nsa,qn,hd,sn,sub,ab,col,del⟩:=cd
      dsimp only at hmro hdl hns hin
      subst hmro hdl
      have esl:sl = #[s0,s1,s2,s3,some (.builtin nid),s5]:=by
        obtain ⟨lst⟩:=sl
        simp only at hslots
        rw [hslots]
      subst esl
      exact ⟨bm2,nsa,nm,qn,bs,hd,sn,sub,ab,col,dd,s0,s1,s2,s3,s5,_,X _ _ hobj,.of_isNs (isNs_of_in X hns),nsMap_none_of_in X hns hin,tail_of_in X htl⟩
    · cases q
  · cases q
end Lw
namespace Lw
open PySem L2 PyProof.Rows
theorem gf_mk {K:PySem.W.Frag} {h:Heap} {mg:Str→Option Value} {x:Str} {fd:FuncData} {f:Addr} {ps:List Str} (X:K.In h) (G:h.Ns mainGlobals mg) (a:PySem.W.nsIn K mainGlobals x=some (some (.ref f))) (k:PySem.W.keepIn K (.ref f)=true) (b:Binds K fd ps []):Gf K mg x f fd ps :=
  ⟨PySem.W.mg_of X G a,k,b⟩
theorem all_mk {l:PySem.W.OpenLaw} {w:World} {K:PySem.W.Frag} {h:Heap} {mg:Str→Option Value} {fa f0 f1 f2 f3 f4 f5 f6 f7 f8 f9 f10 f11 f12 f13 f14 f15 f16 f17 f18 f19 f20 f21 f22 f23 f24:Addr} (X:K.In h) (G:h.Ns mainGlobals mg) (hfa:mg "law" = some (.ref fa))
    {od0 an0 od1 an1 od2 an2 od3 an3 od4 an4 od5 an5 od6 an6 od7 an7 od8 an8 od9 an9 od10 an10 od11 an11 od12 an12 od13 an13 od14 an14 od15 an15 od16 an16 od17 an17 od18 an18 od19 an19 od20 an20 od21 an21 od22 an22 od23 an23 od24 an24:Option Addr} {sl0 sl1 sl2 sl3 sl4 sl5 sl6 sl7 sl8 sl9 sl10 sl11 sl12 sl13 sl14 sl15 sl16 sl17 sl18 sl19 sl20 sl21 sl22 sl23 sl24:Array (Option Value)} {oc0 kV0 dc0 pm0 cd0 ct0 oc1 kV1 dc1 pm1 cd1 ct1 oc2 kV2 dc2 pm2 cd2 ct2 oc3 kV3 dc3 pm3 cd3 ct3 oc4 kV4 dc4 pm4 cd4 ct4 oc5 kV5 dc5 pm5 cd5 ct5 oc6 kV6 dc6 pm6 cd6 ct6 oc7 kV7 dc7 pm7 cd7 ct7 oc8 kV8 dc8 pm8 cd8 ct8 oc9 kV9 dc9 pm9 cd9 ct9 oc10 kV10 dc10 pm10 cd10 ct10 oc11 kV11 dc11 pm11 cd11 ct11 oc12 kV12 dc12 pm12 cd12 ct12 oc13 kV13 dc13 pm13 cd13 ct13 oc14 kV14 dc14 pm14 cd14 ct14 oc15 kV15 dc15 pm15 cd15 ct15 oc16 kV16 dc16 pm16 cd16 ct16 oc17 kV17 dc17 pm17 cd17 ct17 oc18 kV18 dc18 pm18 cd18 ct18 oc19 kV19 dc19 pm19 cd19 ct19 oc20 kV20 dc20 pm20 cd20 ct20 oc21 kV21 dc21 pm21 cd21 ct21 oc22 kV22 dc22 pm22 cd22 ct22 oc23 kV23 dc23 pm23 cd23 ct23 oc24 kV24 dc24 pm24 cd24 ct24:Value} {tkLONGEST_TIE:Tok}
    (a0:PySem.W.nsIn K mainGlobals "is_whole" = some (some (.ref f0))) (l0:K.lookup f0=some ⟨oc0,od0,.func (PySem.W.fnOf "is_whole" "is_whole" (defArgs sWho) (defBody sWho) (defScope sWho) .none kV0 dc0 pm0 an0 cd0 ct0),sl0⟩) (c0:PySem.W.codeIn K cd0 "is_whole" = true) (k0:PySem.W.keepIn K (.ref f0)=true)
    (a1:PySem.W.nsIn K mainGlobals "is_within" = some (some (.ref f1))) (l1:K.lookup f1=some ⟨oc1,od1,.func (PySem.W.fnOf "is_within" "is_within" (defArgs sWin) (defBody sWin) (defScope sWin) .none kV1 dc1 pm1 an1 cd1 ct1),sl1⟩) (c1:PySem.W.codeIn K cd1 "is_within" = true) (k1:PySem.W.keepIn K (.ref f1)=true)
    (a2:PySem.W.nsIn K mainGlobals "need_far_age" = some (some (.ref f2))) (l2:K.lookup f2=some ⟨oc2,od2,.func (PySem.W.fnOf "need_far_age" "need_far_age" (defArgs sNfa) (defBody sNfa) (defScope sNfa) .none kV2 dc2 pm2 an2 cd2 ct2),sl2⟩) (c2:PySem.W.codeIn K cd2 "need_far_age" = true) (k2:PySem.W.keepIn K (.ref f2)=true)
    (a3:PySem.W.nsIn K mainGlobals "need_number" = some (some (.ref f3))) (l3:K.lookup f3=some ⟨oc3,od3,.func (PySem.W.fnOf "need_number" "need_number" (defArgs sNnu) (defBody sNnu) (defScope sNnu) .none kV3 dc3 pm3 an3 cd3 ct3),sl3⟩) (c3:PySem.W.codeIn K cd3 "need_number" = true) (k3:PySem.W.keepIn K (.ref f3)=true)
    (a4:PySem.W.nsIn K mainGlobals "paired_sum" = some (some (.ref f4))) (l4:K.lookup f4=some ⟨oc4,od4,.func (PySem.W.fnOf "paired_sum" "paired_sum" (defArgs sPrs) (defBody sPrs) (defScope sPrs) .none kV4 dc4 pm4 an4 cd4 ct4),sl4⟩) (c4:PySem.W.codeIn K cd4 "paired_sum" = true) (k4:PySem.W.keepIn K (.ref f4)=true)
    (a5:PySem.W.nsIn K mainGlobals "is_whole_list" = some (some (.ref f5))) (l5:K.lookup f5=some ⟨oc5,od5,.func (PySem.W.fnOf "is_whole_list" "is_whole_list" (defArgs sWli) (defBody sWli) (defScope sWli) .none kV5 dc5 pm5 an5 cd5 ct5),sl5⟩) (c5:PySem.W.codeIn K cd5 "is_whole_list" = true) (k5:PySem.W.keepIn K (.ref f5)=true)
    (a6:PySem.W.nsIn K mainGlobals "unwound" = some (some (.ref f6))) (l6:K.lookup f6=some ⟨oc6,od6,.func (PySem.W.fnOf "unwound" "unwound" (defArgs sUnw) (defBody sUnw) (defScope sUnw) .none kV6 dc6 pm6 an6 cd6 ct6),sl6⟩) (c6:PySem.W.codeIn K cd6 "unwound" = true) (k6:PySem.W.keepIn K (.ref f6)=true)
    (a7:PySem.W.nsIn K mainGlobals "shares_at" = some (some (.ref f7))) (l7:K.lookup f7=some ⟨oc7,od7,.func (PySem.W.fnOf "shares_at" "shares_at" (defArgs sShs) (defBody sShs) (defScope sShs) .none kV7 dc7 pm7 an7 cd7 ct7),sl7⟩) (c7:PySem.W.codeIn K cd7 "shares_at" = true) (k7:PySem.W.keepIn K (.ref f7)=true)
    (a8:PySem.W.nsIn K mainGlobals "figures_by_twos" = some (some (.ref f8))) (l8:K.lookup f8=some ⟨oc8,od8,.func (PySem.W.fnOf "figures_by_twos" "figures_by_twos" (defArgs sFig) (defBody sFig) (defScope sFig) .none kV8 dc8 pm8 an8 cd8 ct8),sl8⟩) (c8:PySem.W.codeIn K cd8 "figures_by_twos" = true) (k8:PySem.W.keepIn K (.ref f8)=true)
    (a9:PySem.W.nsIn K mainGlobals "one_on" = some (some (.ref f9))) (l9:K.lookup f9=some ⟨oc9,od9,.func (PySem.W.fnOf "one_on" "one_on" (defArgs sOne) (defBody sOne) (defScope sOne) .none kV9 dc9 pm9 an9 cd9 ct9),sl9⟩) (c9:PySem.W.codeIn K cd9 "one_on" = true) (k9:PySem.W.keepIn K (.ref f9)=true)
    (a10:PySem.W.nsIn K mainGlobals "twice_as_far" = some (some (.ref f10))) (l10:K.lookup f10=some ⟨oc10,od10,.func (PySem.W.fnOf "twice_as_far" "twice_as_far" (defArgs sTwi) (defBody sTwi) (defScope sTwi) .none kV10 dc10 pm10 an10 cd10 ct10),sl10⟩) (c10:PySem.W.codeIn K cd10 "twice_as_far" = true) (k10:PySem.W.keepIn K (.ref f10)=true)
    (a11:PySem.W.nsIn K mainGlobals "_law_whole" = some (some (.ref f11))) (l11:K.lookup f11=some ⟨oc11,od11,.func (PySem.W.fnOf "_law_whole" "_law_whole" (defArgs sWhl) (defBody sWhl) (defScope sWhl) .none kV11 dc11 pm11 an11 cd11 ct11),sl11⟩) (c11:PySem.W.codeIn K cd11 "_law_whole" = true) (k11:PySem.W.keepIn K (.ref f11)=true)
    (a12:PySem.W.nsIn K mainGlobals "_law_pen" = some (some (.ref f12))) (l12:K.lookup f12=some ⟨oc12,od12,.func (PySem.W.fnOf "_law_pen" "_law_pen" (defArgs sPen) (defBody sPen) (defScope sPen) .none kV12 dc12 pm12 an12 cd12 ct12),sl12⟩) (c12:PySem.W.codeIn K cd12 "_law_pen" = true) (k12:PySem.W.keepIn K (.ref f12)=true)
    (a13:PySem.W.nsIn K mainGlobals "_law_take" = some (some (.ref f13))) (l13:K.lookup f13=some ⟨oc13,od13,.func (PySem.W.fnOf "_law_take" "_law_take" (defArgs sTak) (defBody sTak) (defScope sTak) .none kV13 dc13 pm13 an13 cd13 ct13),sl13⟩) (c13:PySem.W.codeIn K cd13 "_law_take" = true) (k13:PySem.W.keepIn K (.ref f13)=true)
    (a14:PySem.W.nsIn K mainGlobals "_law_signed" = some (some (.ref f14))) (l14:K.lookup f14=some ⟨oc14,od14,.func (PySem.W.fnOf "_law_signed" "_law_signed" (defArgs sSgn) (defBody sSgn) (defScope sSgn) .none kV14 dc14 pm14 an14 cd14 ct14),sl14⟩) (c14:PySem.W.codeIn K cd14 "_law_signed" = true) (k14:PySem.W.keepIn K (.ref f14)=true)
    (a15:PySem.W.nsIn K mainGlobals "_law_number" = some (some (.ref f15))) (l15:K.lookup f15=some ⟨oc15,od15,.func (PySem.W.fnOf "_law_number" "_law_number" (defArgs sNum) (defBody sNum) (defScope sNum) .none kV15 dc15 pm15 an15 cd15 ct15),sl15⟩) (c15:PySem.W.codeIn K cd15 "_law_number" = true) (k15:PySem.W.keepIn K (.ref f15)=true)
    (a16:PySem.W.nsIn K mainGlobals "_law_due" = some (some (.ref f16))) (l16:K.lookup f16=some ⟨oc16,od16,.func (PySem.W.fnOf "_law_due" "_law_due" (defArgs sDue) (defBody sDue) (defScope sDue) .none kV16 dc16 pm16 an16 cd16 ct16),sl16⟩) (c16:PySem.W.codeIn K cd16 "_law_due" = true) (k16:PySem.W.keepIn K (.ref f16)=true)
    (a17:PySem.W.nsIn K mainGlobals "_law_asked" = some (some (.ref f17))) (l17:K.lookup f17=some ⟨oc17,od17,.func (PySem.W.fnOf "_law_asked" "_law_asked" (defArgs sAsk) (defBody sAsk) (defScope sAsk) .none kV17 dc17 pm17 an17 cd17 ct17),sl17⟩) (c17:PySem.W.codeIn K cd17 "_law_asked" = true) (k17:PySem.W.keepIn K (.ref f17)=true)
    (a18:PySem.W.nsIn K mainGlobals "_law_no_row" = some (some (.ref f18))) (l18:K.lookup f18=some ⟨oc18,od18,.func (PySem.W.fnOf "_law_no_row" "_law_no_row" (defArgs sNor) (defBody sNor) (defScope sNor) .none kV18 dc18 pm18 an18 cd18 ct18),sl18⟩) (c18:PySem.W.codeIn K cd18 "_law_no_row" = true) (k18:PySem.W.keepIn K (.ref f18)=true)
    (a19:PySem.W.nsIn K mainGlobals "_law_power" = some (some (.ref f19))) (l19:K.lookup f19=some ⟨oc19,od19,.func (PySem.W.fnOf "_law_power" "_law_power" (defArgs sPow) (defBody sPow) (defScope sPow) .none kV19 dc19 pm19 an19 cd19 ct19),sl19⟩) (c19:PySem.W.codeIn K cd19 "_law_power" = true) (k19:PySem.W.keepIn K (.ref f19)=true)
    (a20:PySem.W.nsIn K mainGlobals "_law_great" = some (some (.ref f20))) (l20:K.lookup f20=some ⟨oc20,od20,.func (PySem.W.fnOf "_law_great" "_law_great" (defArgs sGre) (defBody sGre) (defScope sGre) .none kV20 dc20 pm20 an20 cd20 ct20),sl20⟩) (c20:PySem.W.codeIn K cd20 "_law_great" = true) (k20:PySem.W.keepIn K (.ref f20)=true)
    (a21:PySem.W.nsIn K mainGlobals "_law_round" = some (some (.ref f21))) (l21:K.lookup f21=some ⟨oc21,od21,.func (PySem.W.fnOf "_law_round" "_law_round" (defArgs sRnd) (defBody sRnd) (defScope sRnd) .none kV21 dc21 pm21 an21 cd21 ct21),sl21⟩) (c21:PySem.W.codeIn K cd21 "_law_round" = true) (k21:PySem.W.keepIn K (.ref f21)=true)
    (a22:PySem.W.nsIn K mainGlobals "_law_refused" = some (some (.ref f22))) (l22:K.lookup f22=some ⟨oc22,od22,.func (PySem.W.fnOf "_law_refused" "_law_refused" (defArgs sRef) (defBody sRef) (defScope sRef) .none kV22 dc22 pm22 an22 cd22 ct22),sl22⟩) (c22:PySem.W.codeIn K cd22 "_law_refused" = true) (k22:PySem.W.keepIn K (.ref f22)=true)
    (a23:PySem.W.nsIn K mainGlobals "_law_draws" = some (some (.ref f23))) (l23:K.lookup f23=some ⟨oc23,od23,.func (PySem.W.fnOf "_law_draws" "_law_draws" (defArgs sDrw) (defBody sDrw) (defScope sDrw) .none kV23 dc23 pm23 an23 cd23 ct23),sl23⟩) (c23:PySem.W.codeIn K cd23 "_law_draws" = true) (k23:PySem.W.keepIn K (.ref f23)=true)
    (a24:PySem.W.nsIn K mainGlobals "law" = some (some (.ref f24))) (l24:K.lookup f24=some ⟨oc24,od24,.func (PySem.W.fnOf "law" "law" (defArgs sLaw) (defBody sLaw) (defScope sLaw) .none kV24 dc24 pm24 an24 cd24 ct24),sl24⟩) (c24:PySem.W.codeIn K cd24 "law" = true) (k24:PySem.W.keepIn K (.ref f24)=true)
    (z0:PySem.W.nsIn K mainGlobals "int" = some none) (z1:PySem.W.nsIn K mainGlobals "isinstance" = some none) (z2:PySem.W.nsIn K mainGlobals "bool" = some none) (z3:PySem.W.nsIn K mainGlobals "zip" = some none) (z4:PySem.W.nsIn K mainGlobals "sum" = some none) (z5:PySem.W.nsIn K mainGlobals "len" = some none) (z6:PySem.W.nsIn K mainGlobals "list" = some none) (z7:PySem.W.nsIn K mainGlobals "all" = some none) (z8:PySem.W.nsIn K mainGlobals "reversed" = some none) (z9:PySem.W.nsIn K mainGlobals "range" = some none) (z10:PySem.W.nsIn K mainGlobals "tuple" = some none)
    (y0:PySem.W.nsIn K mainGlobals "LONGEST_TIE" = some (some (.int 16 tkLONGEST_TIE)))
    {cGrowError cNoAge cNoLetter cNoNumber cNoPlace cTooLong cTooMany:Addr} {cdt0 cdt1 cdt2 cdt3 cdt4 cdt5 cdt6:ClassData}
    (ac0:PySem.W.nsIn K mainGlobals "GrowError" = some (some (.ref cGrowError))) (kc0:PySem.W.clsIn K cGrowError=some cdt0) (kn0:PySem.W.instIn K (.ref cGrowError) (.type "tuple")=some false) (kb0:PySem.W.mroIn K cGrowError (.type "BaseException")=some true) (kt0:PySem.W.typeIn K (.ref cGrowError)=some (.type "type"))
    (ac1:PySem.W.nsIn K mainGlobals "NoAge" = some (some (.ref cNoAge))) (kc1:PySem.W.clsIn K cNoAge=some cdt1) (kn1:PySem.W.instIn K (.ref cNoAge) (.type "tuple")=some false) (kb1:PySem.W.mroIn K cNoAge (.type "BaseException")=some true) (kt1:PySem.W.typeIn K (.ref cNoAge)=some (.type "type")) (q1:PySem.W.excIn K cNoAge [.type "ValueError",.type "Exception",.type "BaseException",.type "object"] "ValueError.__new__" = true) (xf1:PySem.W.findIn K (.ref cNoAge) "__class__" = some (some (.builtin "object.__class__"))) (xg1:PySem.W.specialIn K (.builtin "object.__class__") "__get__" = some (some (.builtin "getset_descriptor.__get__"))) (xt1:PySem.W.takesIn K (.builtin "object.__class__")=some true) (xo1:PySem.W.mroIn K cNoAge (.type "object")=some true) (xa1:PySem.W.findIn K (.ref cNoAge) "__getattribute__" = some (some (.builtin "BaseException.__getattribute__"))) (xh1:PySem.W.findIn K (.ref cNoAge) "__getattr__" = some none) (xv1:PySem.W.mroIn K cNoAge (.type "ValueError")=some true) (r1_0:PySem.W.mroIn K cNoAge (.ref cGrowError)=some true) (r1_1:PySem.W.mroIn K cNoAge (.ref cNoAge)=some true) (r1_2:PySem.W.mroIn K cNoAge (.ref cNoLetter)=some false) (r1_3:PySem.W.mroIn K cNoAge (.ref cNoNumber)=some false) (r1_4:PySem.W.mroIn K cNoAge (.ref cNoPlace)=some false) (r1_5:PySem.W.mroIn K cNoAge (.ref cTooLong)=some false) (r1_6:PySem.W.mroIn K cNoAge (.ref cTooMany)=some false)
    (ac2:PySem.W.nsIn K mainGlobals "NoLetter" = some (some (.ref cNoLetter))) (kc2:PySem.W.clsIn K cNoLetter=some cdt2) (kn2:PySem.W.instIn K (.ref cNoLetter) (.type "tuple")=some false) (kb2:PySem.W.mroIn K cNoLetter (.type "BaseException")=some true) (kt2:PySem.W.typeIn K (.ref cNoLetter)=some (.type "type"))
    (ac3:PySem.W.nsIn K mainGlobals "NoNumber" = some (some (.ref cNoNumber))) (kc3:PySem.W.clsIn K cNoNumber=some cdt3) (kn3:PySem.W.instIn K (.ref cNoNumber) (.type "tuple")=some false) (kb3:PySem.W.mroIn K cNoNumber (.type "BaseException")=some true) (kt3:PySem.W.typeIn K (.ref cNoNumber)=some (.type "type")) (q3:PySem.W.excIn K cNoNumber [.type "ValueError",.type "Exception",.type "BaseException",.type "object"] "ValueError.__new__" = true) (xf3:PySem.W.findIn K (.ref cNoNumber) "__class__" = some (some (.builtin "object.__class__"))) (xg3:PySem.W.specialIn K (.builtin "object.__class__") "__get__" = some (some (.builtin "getset_descriptor.__get__"))) (xt3:PySem.W.takesIn K (.builtin "object.__class__")=some true) (xo3:PySem.W.mroIn K cNoNumber (.type "object")=some true) (xa3:PySem.W.findIn K (.ref cNoNumber) "__getattribute__" = some (some (.builtin "BaseException.__getattribute__"))) (xh3:PySem.W.findIn K (.ref cNoNumber) "__getattr__" = some none) (xv3:PySem.W.mroIn K cNoNumber (.type "ValueError")=some true) (r3_0:PySem.W.mroIn K cNoNumber (.ref cGrowError)=some true) (r3_1:PySem.W.mroIn K cNoNumber (.ref cNoAge)=some false) (r3_2:PySem.W.mroIn K cNoNumber (.ref cNoLetter)=some false) (r3_3:PySem.W.mroIn K cNoNumber (.ref cNoNumber)=some true) (r3_4:PySem.W.mroIn K cNoNumber (.ref cNoPlace)=some false) (r3_5:PySem.W.mroIn K cNoNumber (.ref cTooLong)=some false) (r3_6:PySem.W.mroIn K cNoNumber (.ref cTooMany)=some false)
    (ac4:PySem.W.nsIn K mainGlobals "NoPlace" = some (some (.ref cNoPlace))) (kc4:PySem.W.clsIn K cNoPlace=some cdt4) (kn4:PySem.W.instIn K (.ref cNoPlace) (.type "tuple")=some false) (kb4:PySem.W.mroIn K cNoPlace (.type "BaseException")=some true) (kt4:PySem.W.typeIn K (.ref cNoPlace)=some (.type "type"))
    (ac5:PySem.W.nsIn K mainGlobals "TooLong" = some (some (.ref cTooLong))) (kc5:PySem.W.clsIn K cTooLong=some cdt5) (kn5:PySem.W.instIn K (.ref cTooLong) (.type "tuple")=some false) (kb5:PySem.W.mroIn K cTooLong (.type "BaseException")=some true) (kt5:PySem.W.typeIn K (.ref cTooLong)=some (.type "type"))
    (ac6:PySem.W.nsIn K mainGlobals "TooMany" = some (some (.ref cTooMany))) (kc6:PySem.W.clsIn K cTooMany=some cdt6) (kn6:PySem.W.instIn K (.ref cTooMany) (.type "tuple")=some false) (kb6:PySem.W.mroIn K cTooMany (.type "BaseException")=some true) (kt6:PySem.W.typeIn K (.ref cTooMany)=some (.type "type"))
    : ∃ fd:FuncData,(∀ (s:Shared) (v:Value),BindsTo s fd ⟨[v],[]⟩ [("_law_script",v)])∧∀ base:Heap,K.In base→base.Ns mainGlobals mg→FnOk l.prog w K mg base CX0 7 fa fd ["_law_script"] (spLaw K):=by
  have e:=hfa.symm.trans (PySem.W.mg_of X G a24)
  cases e
  have F0:=fun_mk (st:=sWho) l0 c0 k0
  have F1:=fun_mk (st:=sWin) l1 c1 k1
  have F2:=fun_mk (st:=sNfa) l2 c2 k2
  have F3:=fun_mk (st:=sNnu) l3 c3 k3
  have F4:=fun_mk (st:=sPrs) l4 c4 k4
  have F5:=fun_mk (st:=sWli) l5 c5 k5
  have F6:=fun_mk (st:=sUnw) l6 c6 k6
  have F7:=fun_mk (st:=sShs) l7 c7 k7
  have F8:=fun_mk (st:=sFig) l8 c8 k8
  have F9:=fun_mk (st:=sOne) l9 c9 k9
  have F10:=fun_mk (st:=sTwi) l10 c10 k10
  have F11:=fun_mk (st:=sWhl) l11 c11 k11
  have F12:=fun_mk (st:=sPen) l12 c12 k12
  have F13:=fun_mk (st:=sTak) l13 c13 k13
  have F14:=fun_mk (st:=sSgn) l14 c14 k14
  have F15:=fun_mk (st:=sNum) l15 c15 k15
  have F16:=fun_mk (st:=sDue) l16 c16 k16
  have F17:=fun_mk (st:=sAsk) l17 c17 k17
  have F18:=fun_mk (st:=sNor) l18 c18 k18
  have F19:=fun_mk (st:=sPow) l19 c19 k19
  have F20:=fun_mk (st:=sGre) l20 c20 k20
  have F21:=fun_mk (st:=sRnd) l21 c21 k21
  have F22:=fun_mk (st:=sRef) l22 c22 k22
  have F23:=fun_mk (st:=sDrw) l23 c23 k23
  have F24:=fun_mk (st:=sLaw) l24 c24 k24
  have b0:=F0.binds (ps:=["thing"]) fun _ _ _ _ _ _ us hl=>match us,hl with | [_],_=>rfl
  have gWho:=gf_mk X G a0 k0 b0
  have b1:=F1.binds (ps:=["thing","least","most"]) fun _ _ _ _ _ _ us hl=>match us,hl with | [_,_,_],_=>rfl
  have gWin:=gf_mk X G a1 k1 b1
  have b2:=F2.binds (ps:=["age"]) fun _ _ _ _ _ _ us hl=>match us,hl with | [_],_=>rfl
  have gNfa:=gf_mk X G a2 k2 b2
  have b3:=F3.binds (ps:=["number"]) fun _ _ _ _ _ _ us hl=>match us,hl with | [_],_=>rfl
  have gNnu:=gf_mk X G a3 k3 b3
  have b4:=F4.binds (ps:=["ones","others"]) fun _ _ _ _ _ _ us hl=>match us,hl with | [_,_],_=>rfl
  have gPrs:=gf_mk X G a4 k4 b4
  have b5:=F5.binds (ps:=["thing"]) fun _ _ _ _ _ _ us hl=>match us,hl with | [_],_=>rfl
  have gWli:=gf_mk X G a5 k5 b5
  have b6:=F6.binds (ps:=["c","starts","age","number"]) fun _ _ _ _ _ _ us hl=>match us,hl with | [_,_,_,_],_=>rfl
  have gUnw:=gf_mk X G a6 k6 b6
  have b7:=F7.binds (ps:=["c","age","number"]) fun _ _ _ _ _ _ us hl=>match us,hl with | [_,_,_],_=>rfl
  have gShs:=gf_mk X G a7 k7 b7
  have b8:=F8.binds (ps:=["age"]) fun _ _ _ _ _ _ us hl=>match us,hl with | [_],_=>rfl
  have gFig:=gf_mk X G a8 k8 b8
  have b9:=F9.binds (ps:=["shares","c","number"]) fun _ _ _ _ _ _ us hl=>match us,hl with | [_,_,_],_=>rfl
  have gOne:=gf_mk X G a9 k9 b9
  have b10:=F10.binds (ps:=["shares","c","number"]) fun _ _ _ _ _ _ us hl=>match us,hl with | [_,_,_],_=>rfl
  have gTwi:=gf_mk X G a10 k10 b10
  have b11:=F11.binds (ps:=["_law_found"]) fun _ _ _ _ _ _ us hl=>match us,hl with | [_],_=>rfl
  have gWhl:=gf_mk X G a11 k11 b11
  have b12:=F12.binds (ps:=["_law_script","_law_k"]) fun _ _ _ _ _ _ us hl=>match us,hl with | [_,_],_=>rfl
  have gPen:=gf_mk X G a12 k12 b12
  have b13:=F13.binds (ps:=["_law_pen_here","_law_size"]) fun _ _ _ _ _ _ us hl=>match us,hl with | [_,_],_=>rfl
  have gTak:=gf_mk X G a13 k13 b13
  have b14:=F14.binds (ps:=["_law_pen_here","_law_great_here"]) fun _ _ _ _ _ _ us hl=>match us,hl with | [_,_],_=>rfl
  have gSgn:=gf_mk X G a14 k14 b14
  have b15:=F15.binds (ps:=["_law_pen_here"]) fun _ _ _ _ _ _ us hl=>match us,hl with | [_],_=>rfl
  have gNum:=gf_mk X G a15 k15 b15
  have b16:=F16.binds (ps:=["_law_c","_law_begins","_law_at_age","_law_number_here"]) fun _ _ _ _ _ _ us hl=>match us,hl with | [_,_,_,_],_=>rfl
  have gDue:=gf_mk X G a16 k16 b16
  have b17:=F17.binds (ps:=["_law_c","_law_begins","_law_at_age","_law_number_here"]) fun _ _ _ _ _ _ us hl=>match us,hl with | [_,_,_,_],_=>rfl
  have gAsk:=gf_mk X G a17 k17 b17
  have b18:=F18.binds (ps:=["_law_line","_law_spoil","_law_at"]) fun _ _ _ _ _ _ us hl=>match us,hl with | [_,_,_],_=>rfl
  have gNor:=gf_mk X G a18 k18 b18
  have b19:=F19.binds (ps:=["_law_base","_law_times","_law_number_here"]) fun _ _ _ _ _ _ us hl=>match us,hl with | [_,_,_],_=>rfl
  have gPow:=gf_mk X G a19 k19 b19
  have b20:=F20.binds (ps:=["_law_c","_law_begins","_law_at_age","_law_number_here"]) fun _ _ _ _ _ _ us hl=>match us,hl with | [_,_,_,_],_=>rfl
  have gGre:=gf_mk X G a20 k20 b20
  have b21:=F21.binds (ps:=["_law_c","_law_begins","_law_at_age","_law_number_here"]) fun _ _ _ _ _ _ us hl=>match us,hl with | [_,_,_,_],_=>rfl
  have gRnd:=gf_mk X G a21 k21 b21
  have b22:=F22.binds (ps:=["_law_c","_law_begins","_law_at_age","_law_number_here","_law_spoil","_law_at"]) fun _ _ _ _ _ _ us hl=>match us,hl with | [_,_,_,_,_,_],_=>rfl
  have gRef:=gf_mk X G a22 k22 b22
  have b23:=F23.binds (ps:=["_law_script"]) fun _ _ _ _ _ _ us hl=>match us,hl with | [_],_=>rfl
  have gDrw:=gf_mk X G a23 k23 b23
  have m_int:=PySem.W.mg_none_of X G z0
  have m_isinstance:=PySem.W.mg_none_of X G z1
  have m_bool:=PySem.W.mg_none_of X G z2
  have m_zip:=PySem.W.mg_none_of X G z3
  have m_sum:=PySem.W.mg_none_of X G z4
  have m_len:=PySem.W.mg_none_of X G z5
  have m_list:=PySem.W.mg_none_of X G z6
  have m_all:=PySem.W.mg_none_of X G z7
  have m_reversed:=PySem.W.mg_none_of X G z8
  have m_range:=PySem.W.mg_none_of X G z9
  have m_tuple:=PySem.W.mg_none_of X G z10
  have m_LONGEST_TIE:=PySem.W.mg_of X G y0
  refine ⟨PySem.W.fnOf "law" "law" (defArgs sLaw) (defBody sLaw) (defScope sLaw) .none kV24 dc24 pm24 an24 cd24 ct24,fun s v=>.of_eq rfl,fun base KB GB=>?_⟩
  have mGrowError:=PySem.W.mg_of X G ac0
  have ckGrowError:ClsK K cGrowError:=⟨by rw [kc0];rfl,kn0,kb0,kt0⟩
  have mNoAge:=PySem.W.mg_of X G ac1
  have ckNoAge:ClsK K cNoAge:=⟨by rw [kc1];rfl,kn1,kb1,kt1⟩
  have owNoAge:OwnCls "NoAge" cNoAge bmV "ValueError.__new__" mg base:=own_mk KB GB ac1 q1
  have xkNoAge:ExcK K cNoAge:=⟨by rw [kc1];rfl,xf1,xg1,xt1,xo1,kb1,xa1,xh1⟩
  have mNoLetter:=PySem.W.mg_of X G ac2
  have ckNoLetter:ClsK K cNoLetter:=⟨by rw [kc2];rfl,kn2,kb2,kt2⟩
  have mNoNumber:=PySem.W.mg_of X G ac3
  have ckNoNumber:ClsK K cNoNumber:=⟨by rw [kc3];rfl,kn3,kb3,kt3⟩
  have owNoNumber:OwnCls "NoNumber" cNoNumber bmV "ValueError.__new__" mg base:=own_mk KB GB ac3 q3
  have xkNoNumber:ExcK K cNoNumber:=⟨by rw [kc3];rfl,xf3,xg3,xt3,xo3,kb3,xa3,xh3⟩
  have mNoPlace:=PySem.W.mg_of X G ac4
  have ckNoPlace:ClsK K cNoPlace:=⟨by rw [kc4];rfl,kn4,kb4,kt4⟩
  have mTooLong:=PySem.W.mg_of X G ac5
  have ckTooLong:ClsK K cTooLong:=⟨by rw [kc5];rfl,kn5,kb5,kt5⟩
  have mTooMany:=PySem.W.mg_of X G ac6
  have ckTooMany:ClsK K cTooMany:=⟨by rw [kc6];rfl,kn6,kb6,kt6⟩
  have oWho:=ok_who (P:=l.prog) (w:=w) (mg:=mg) (base:=base) F0 m_int m_isinstance m_bool
  have oWin:=ok_win (P:=l.prog) (w:=w) (mg:=mg) (base:=base) F1 oWho gWho
  have oNfaX:=ok_nfax (P:=l.prog) (w:=w) (mg:=mg) (base:=base) F2 oWin gWin owNoAge
  have oNnuX:=ok_nnux (P:=l.prog) (w:=w) (mg:=mg) (base:=base) F3 oWin gWin owNoNumber
  have oWli:=ok_wli (P:=l.prog) (w:=w) (mg:=mg) (base:=base) F5 oWho gWho m_len m_list m_isinstance m_all m_LONGEST_TIE
  have oPrs:=ok_prs (P:=l.prog) (w:=w) (mg:=mg) (base:=base) F4 m_zip m_sum
  have oFig:=ok_fig (P:=l.prog) (w:=w) (mg:=mg) (base:=base) F8 m_list m_reversed
  have oOne:=ok_one (P:=l.prog) (w:=w) (mg:=mg) (base:=base) F9 m_zip
  have oTwi:=ok_twi (P:=l.prog) (w:=w) (mg:=mg) (base:=base) F10 oOne gOne m_zip
  have oShs:=ok_shs (P:=l.prog) (w:=w) (mg:=mg) (base:=base) F7 oFig gFig oTwi gTwi oOne gOne
  have oUnwX:=ok_unwx (P:=l.prog) (w:=w) (mg:=mg) (base:=base) F6 oNfaX gNfa oNnuX gNnu oWli gWli oPrs gPrs oShs gShs owNoNumber m_len
  have oPen:=ok_pen (P:=l.prog) (w:=w) (mg:=mg) (base:=base) F12 m_len
  have oTak:=ok_tak (P:=l.prog) (w:=w) (mg:=mg) (base:=base) F13
  have oNum:=ok_num (P:=l.prog) (w:=w) (mg:=mg) (base:=base) F15 oTak gTak
  have oDrw:=ok_drw (P:=l.prog) (w:=w) (mg:=mg) (base:=base) F23 oPen gPen oTak gTak oNum gNum
  have oDue:=ok_due (P:=l.prog) (w:=w) (mg:=mg) (base:=base) F16 m_len m_range m_sum m_list
  have oSgn:=ok_sgn (P:=l.prog) (w:=w) (mg:=mg) (base:=base) F14 oTak gTak
  have oWhl:=ok_whl (P:=l.prog) (w:=w) (mg:=mg) (base:=base) F11 m_int m_isinstance m_bool
  have oAsk:=ok_ask (P:=l.prog) (w:=w) (mg:=mg) (base:=base) F17 oWhl gWhl mGrowError ckGrowError mNoAge ckNoAge mNoLetter ckNoLetter mNoNumber ckNoNumber mNoPlace ckNoPlace mTooLong ckTooLong mTooMany ckTooMany oUnwX gUnw r1_0 r1_1 r1_2 r1_3 r1_4 r1_5 r1_6 r3_0 r3_1 r3_2 r3_3 r3_4 r3_5 r3_6 xkNoAge xkNoNumber m_isinstance
  have oPow:=ok_pow (P:=l.prog) (w:=w) (mg:=mg) (base:=base) F19
  have oRnd:=ok_rnd (P:=l.prog) (w:=w) (mg:=mg) (base:=base) F21 oAsk gAsk oPow gPow m_len m_range
  have oGre:=ok_gre (P:=l.prog) (w:=w) (mg:=mg) (base:=base) F20 oAsk gAsk m_len m_range m_sum m_tuple m_isinstance
  have oNor:=ok_nor (P:=l.prog) (w:=w) (mg:=mg) (base:=base) F18 m_len m_range m_tuple
  have oRef:=ok_ref (P:=l.prog) (w:=w) (mg:=mg) (base:=base) F22 oNor gNor oAsk gAsk m_len m_range
  exact ok_law F24 oDrw gDrw oPen gPen oDue gDue oSgn gSgn oAsk gAsk oRnd gRnd oGre gGre oRef gRef m_range m_sum m_int m_list
theorem walk {l:PySem.W.OpenLaw} {q:Program} {loose:List Str} {XP:(Str→Option Value)→Heap→Prop} {YP:World→Heap→Prop} {d:DefRec} {K:Params→PySem.W.Frag} (hn:l.most=some 63) (hdf:d.params.defaults=[])
    (hY:∀ (w:World) (h:Heap),YP w h→(K w.params).In h)
    (F : ∀ (w:World) (mg:Str→Option Value) (fa:Addr) (h:Heap),(K w.params).In h→h.Ns mainGlobals mg→mg d.name=some (.ref fa) →
      ∃ fd:FuncData,(∀ (s:Shared) (u:Value),BindsTo s fd ⟨[u],[]⟩ [("_law_script",u)])∧∀ base:Heap,(K w.params).In base→base.Ns mainGlobals mg→FnOk l.prog w (K w.params) mg base CX0 7 fa fd ["_law_script"] (spLaw (K w.params))) :
    PySem.W.WalkO q loose XP YP l.row.toRowW d [] (fun f vs=>PySem.call f vs) :=
  L2.walk_of (n:=63) (k:=7) (x:="_law_script") (CX:=fun _=>CX0) (sp:=fun w=>spLaw (K w.params)) hn (by decide) hdf ⟨rfl,by decide,by decide⟩ hY F (fun _ _ a ns hl _ hS=>⟨a,ns,rfl,hS,hl,fun _=>rfl⟩) fun _ _ _ _ _ z=>z
end Lw
open PySem PySem.W PyProof.Rows
set_option maxRecDepth 100000 in
set_option maxHeartbeats 0 in
theorem PySem.Challenge.cw_linegrow_k41_unwound_holds : PySem.Challenge.rw_linegrow_k41_unwound.Holds := by
  w_on;o_law;k_head;(case hw=>w_witness2)
  k_fill
  refine Lw.walk (l:=PySem.Challenge.rw_linegrow_k41_unwound) rfl rfl (fun w h Y=>PySem.W.kIn_of Y) ?F
  case F =>
    intro w mg fa h KX G hmg
    refine' Lw.all_mk KX G hmg ?a0 ?l0 ?c0 ?k0 ?a1 ?l1 ?c1 ?k1 ?a2 ?l2 ?c2 ?k2 ?a3 ?l3 ?c3 ?k3 ?a4 ?l4 ?c4 ?k4 ?a5 ?l5 ?c5 ?k5 ?a6 ?l6 ?c6 ?k6 ?a7 ?l7 ?c7 ?k7 ?a8 ?l8 ?c8 ?k8 ?a9 ?l9 ?c9 ?k9 ?a10 ?l10 ?c10 ?k10 ?a11 ?l11 ?c11 ?k11 ?a12 ?l12 ?c12 ?k12 ?a13 ?l13 ?c13 ?k13 ?a14 ?l14 ?c14 ?k14 ?a15 ?l15 ?c15 ?k15 ?a16 ?l16 ?c16 ?k16 ?a17 ?l17 ?c17 ?k17 ?a18 ?l18 ?c18 ?k18 ?a19 ?l19 ?c19 ?k19 ?a20 ?l20 ?c20 ?k20 ?a21 ?l21 ?c21 ?k21 ?a22 ?l22 ?c22 ?k22 ?a23 ?l23 ?c23 ?k23 ?a24 ?l24 ?c24 ?k24 ?z0 ?z1 ?z2 ?z3 ?z4 ?z5 ?z6 ?z7 ?z8 ?z9 ?z10 ?y0 ?ac0 ?kc0 ?kn0 ?kb0 ?kt0 ?ac1 ?kc1 ?kn1 ?kb1 ?kt1 ?q1 ?xf1 ?xg1 ?xt1 ?xo1 ?xa1 ?xh1 ?xv1 ?r1_0 ?r1_1 ?r1_2 ?r1_3 ?r1_4 ?r1_5 ?r1_6 ?ac2 ?kc2 ?kn2 ?kb2 ?kt2 ?ac3 ?kc3 ?kn3 ?kb3 ?kt3 ?q3 ?xf3 ?xg3 ?xt3 ?xo3 ?xa3 ?xh3 ?xv3 ?r3_0 ?r3_1 ?r3_2 ?r3_3 ?r3_4 ?r3_5 ?r3_6 ?ac4 ?kc4 ?kn4 ?kb4 ?kt4 ?ac5 ?kc5 ?kn5 ?kb5 ?kt5 ?ac6 ?kc6 ?kn6 ?kb6 ?kt6
    (case ac0=>k_is)
    (case ac1=>k_is)
    (case ac2=>k_is)
    (case ac3=>k_is)
    (case ac4=>k_is)
    (case ac5=>k_is)
    (case ac6=>k_is)
    (case a0=>k_is)
    (case l0=>k_is)
    (case c0=>k_is)
    (case k0=>k_is)
    (case a1=>k_is)
    (case l1=>k_is)
    (case c1=>k_is)
    (case k1=>k_is)
    (case a2=>k_is)
    (case l2=>k_is)
    (case c2=>k_is)
    (case k2=>k_is)
    (case a3=>k_is)
    (case l3=>k_is)
    (case c3=>k_is)
    (case k3=>k_is)
    (case a4=>k_is)
    (case l4=>k_is)
    (case c4=>k_is)
    (case k4=>k_is)
    (case a5=>k_is)
    (case l5=>k_is)
    (case c5=>k_is)
    (case k5=>k_is)
    (case a6=>k_is)
    (case l6=>k_is)
    (case c6=>k_is)
    (case k6=>k_is)
    (case a7=>k_is)
    (case l7=>k_is)
    (case c7=>k_is)
    (case k7=>k_is)
    (case a8=>k_is)
    (case l8=>k_is)
    (case c8=>k_is)
    (case k8=>k_is)
    (case a9=>k_is)
    (case l9=>k_is)
    (case c9=>k_is)
    (case k9=>k_is)
    (case a10=>k_is)
    (case l10=>k_is)
    (case c10=>k_is)
    (case k10=>k_is)
    (case a11=>k_is)
    (case l11=>k_is)
    (case c11=>k_is)
    (case k11=>k_is)
    (case a12=>k_is)
    (case l12=>k_is)
    (case c12=>k_is)
    (case k12=>k_is)
    (case a13=>k_is)
    (case l13=>k_is)
    (case c13=>k_is)
    (case k13=>k_is)
    (case a14=>k_is)
    (case l14=>k_is)
    (case c14=>k_is)
    (case k14=>k_is)
    (case a15=>k_is)
    (case l15=>k_is)
    (case c15=>k_is)
    (case k15=>k_is)
    (case a16=>k_is)
    (case l16=>k_is)
    (case c16=>k_is)
    (case k16=>k_is)
    (case a17=>k_is)
    (case l17=>k_is)
    (case c17=>k_is)
    (case k17=>k_is)
    (case a18=>k_is)
    (case l18=>k_is)
    (case c18=>k_is)
    (case k18=>k_is)
    (case a19=>k_is)
    (case l19=>k_is)
    (case c19=>k_is)
    (case k19=>k_is)
    (case a20=>k_is)
    (case l20=>k_is)
    (case c20=>k_is)
    (case k20=>k_is)
    (case a21=>k_is)
    (case l21=>k_is)
    (case c21=>k_is)
    (case k21=>k_is)
    (case a22=>k_is)
    (case l22=>k_is)
    (case c22=>k_is)
    (case k22=>k_is)
    (case a23=>k_is)
    (case l23=>k_is)
    (case c23=>k_is)
    (case k23=>k_is)
    (case a24=>k_is)
    (case l24=>k_is)
    (case c24=>k_is)
    (case k24=>k_is)
    (case z0=>k_is)
    (case z1=>k_is)
    (case z2=>k_is)
    (case z3=>k_is)
    (case z4=>k_is)
    (case z5=>k_is)
    (case z6=>k_is)
    (case z7=>k_is)
    (case z8=>k_is)
    (case z9=>k_is)
    (case z10=>k_is)
    (case y0=>k_is)
    (case kc0=>k_is)
    (case kn0=>k_is)
    (case kb0=>k_is)
    (case kt0=>k_is)
    (case kc1=>k_is)
    (case kn1=>k_is)
    (case kb1=>k_is)
    (case kt1=>k_is)
    (case q1=>k_exc)
    (case xf1=>k_is)
    (case xg1=>k_is)
    (case xt1=>k_is)
    (case xo1=>k_is)
    (case xa1=>k_is)
    (case xh1=>k_is)
    (case xv1=>k_is)
    (case r1_0=>k_is)
    (case r1_1=>k_is)
    (case r1_2=>k_is)
    (case r1_3=>k_is)
    (case r1_4=>k_is)
    (case r1_5=>k_is)
    (case r1_6=>k_is)
    (case kc2=>k_is)
    (case kn2=>k_is)
    (case kb2=>k_is)
    (case kt2=>k_is)
    (case kc3=>k_is)
    (case kn3=>k_is)
    (case kb3=>k_is)
    (case kt3=>k_is)
    (case q3=>k_exc)
    (case xf3=>k_is)
    (case xg3=>k_is)
    (case xt3=>k_is)
    (case xo3=>k_is)
    (case xa3=>k_is)
    (case xh3=>k_is)
    (case xv3=>k_is)
    (case r3_0=>k_is)
    (case r3_1=>k_is)
    (case r3_2=>k_is)
    (case r3_3=>k_is)
    (case r3_4=>k_is)
    (case r3_5=>k_is)
    (case r3_6=>k_is)
    (case kc4=>k_is)
    (case kn4=>k_is)
    (case kb4=>k_is)
    (case kt4=>k_is)
    (case kc5=>k_is)
    (case kn5=>k_is)
    (case kb5=>k_is)
    (case kt5=>k_is)
    (case kc6=>k_is)
    (case kn6=>k_is)
    (case kb6=>k_is)
    (case kt6=>k_is)
