import PyProof.Rows.All
import Wide.All
import OpenK.AllK
import Wide.FinOn
import PyProof.EqAt
import PyProof.EqKinds
import PyProof.TupleCall
import KE.BitLaws
import Open.SpecLaws
import KE.OsHead
import KE.OsGo
import PyProof.ListRange
import PyProof.ZipIter
import KE.KRevIter
import PyProof.DictWalks
import PyProof.CollectIter
import PyFlatLaws
import KE.KEqDeep
import KE.KSortedM
import PySem.Challenge.RW_unknownkinds_s01_answers
set_option Elab.async false
set_option linter.all false
set_option maxRecDepth 100000
set_option maxHeartbeats 4000000
set_option Elab.async false
set_option linter.all false
set_option maxRecDepth 100000
namespace L2
open PySem PySem.Spec PyProof.Rows
abbrev Key := Sum Int Str
def keyIs : Key → Value → Bool
 | .inl k, v => Value.isInt k v
 | .inr x, v => Value.isStrOf x v
def keyH (w : World) : Key → Int
 | .inl k => hashInt k
 | .inr x => hashStr w x
theorem keyIs_shape : ∀ {k : Key} {v : Value}, keyIs k v = true → (∃ i t, k = Sum.inl i ∧ v = Value.int i t) ∨ (∃ x t, k = Sum.inr x ∧ v = Value.str x t)
 | .inl i, v, h => by
  obtain ⟨t, e⟩ := Value.isInt_shape (k := i) (v := v) h
  exact .inl ⟨i, t, rfl, e⟩
 | .inr x, v, h => by
  obtain ⟨t, e⟩ := Value.isStrOf_shape (x := x) (v := v) h
  exact .inr ⟨x, t, rfl, e⟩
theorem keyIs_int (i : Int) (t : Tok) : keyIs (.inl i) (.int i t) = true := by simp [keyIs, Value.isInt]
theorem keyIs_str (x : Str) (t : Tok) : keyIs (.inr x) (.str x t) = true := by simp [keyIs, Value.isStrOf]
theorem key_ll (a b : Int) : decide ((Sum.inl a : Key) = Sum.inl b) = (a == b) := by
 by_cases e : a = b
 ·subst e; simp
 ·have h : ¬ (Sum.inl a : Key) = Sum.inl b := fun q => e (Sum.inl.inj q)
  rw [decide_eq_false h]
  exact (beq_eq_false_iff_ne.mpr e).symm
theorem key_rr (a b : Str) : decide ((Sum.inr a : Key) = Sum.inr b) = decide (a = b) := by
 by_cases e : a = b
 ·subst e; simp
 ·have h : ¬ (Sum.inr a : Key) = Sum.inr b := fun q => e (Sum.inr.inj q)
  rw [decide_eq_false h, decide_eq_false e]
theorem key_lr (a : Int) (b : Str) : decide ((Sum.inl a : Key) = Sum.inr b) = false := decide_eq_false (fun q => nomatch q)
theorem key_rl (a : Str) (b : Int) : decide ((Sum.inr a : Key) = Sum.inl b) = false := decide_eq_false (fun q => nomatch q)
def mixKind (prog : Program) (w : World) : PySem.KeyKind prog w Key where
 is := keyIs
 hash := keyH w
 inj := fun v a b ha hb => by
  rcases keyIs_shape ha with ⟨i, t, rfl, rfl⟩ | ⟨x, t, rfl, rfl⟩
  ·rcases keyIs_shape hb with ⟨j, u, rfl, e⟩ | ⟨y, u, rfl, e⟩
   ·injection e with e1 _; rw [e1]
   ·exact nomatch e
  ·rcases keyIs_shape hb with ⟨j, u, rfl, e⟩ | ⟨y, u, rfl, e⟩
   ·exact nomatch e
   ·injection e with e1 _; rw [e1]
 byValue := fun k v h => by
  rcases keyIs_shape h with ⟨i, t, rfl, rfl⟩ | ⟨x, t, rfl, rfl⟩ <;> rfl
 pyHash := fun hv h => by
  rcases keyIs_shape hv with ⟨i, t, rfl, rfl⟩ | ⟨x, t, rfl, rfl⟩
  ·exact wpAny_pyHash_int h
  ·exact wpAny_pyHash_str h
 eqBool := fun hu hv h => by
  rcases keyIs_shape hu with ⟨i, t, rfl, rfl⟩ | ⟨x, t, rfl, rfl⟩
  ·rcases keyIs_shape hv with ⟨j, u, rfl, rfl⟩ | ⟨y, u, rfl, rfl⟩
   ·rw [key_ll] at h; exact wpAny_eqBool_int h
   ·rw [key_lr] at h; exact SeqAt.EqAt.int_str i t y u _ _ _ _ h
  ·rcases keyIs_shape hv with ⟨j, u, rfl, rfl⟩ | ⟨y, u, rfl, rfl⟩
   ·rw [key_rl] at h; exact SeqAt.EqAt.str_int x t j u _ _ _ _ h
   ·rw [key_rr] at h; exact wpAny_eqBool_str h
 «strs» := fun k x t v h => by
  rcases keyIs_shape h with ⟨i, u, rfl, e⟩ | ⟨y, u, rfl, e⟩
  ·exact nomatch e
  ·injection e with e1 _
   subst e1
   cases v <;> rfl
theorem mixKind_int (prog : Program) (w : World) (i : Int) (t : Tok) : (mixKind prog w).is (.inl i) (.int i t) = true := keyIs_int i t
theorem mixKind_str (prog : Program) (w : World) (x : Str) (t : Tok) : (mixKind prog w).is (.inr x) (.str x t) = true := keyIs_str x t
end L2
namespace L2
open PySem PySem.Spec PyProof.Rows
inductive V where
 | non | bl (b : Bool) | int (i : Int) | str (x : Str) | byt (b : Array UInt8) | flt (b : UInt64) | ref (a : Addr) | ty (n : String)
 deriving DecidableEq
def RelV : V → Value → Prop
 | .non, u => u = Value.none
 | .bl b, u => u = Value.bool b
 | .int i, u => ∃ t, u = Value.int i t
 | .str x, u => ∃ t, u = Value.str x t
 | .byt b, u => ∃ t, u = Value.bytes b t
 | .flt b, u => ∃ t, u = Value.float b t
 | .ref a, u => u = Value.ref a
 | .ty n, u => u = Value.type n
abbrev Vals : List V → List Value → Prop := Paired RelV
theorem Vals.length {xs : List V} {us : List Value} (r : Vals xs us) : xs.length = us.length := Paired.length r
theorem Vals.get : ∀ {xs : List V} {us : List Value} {i : Nat} {x : V}, Vals xs us → xs[i]? = some x → ∃ u, us[i]? = some u ∧ RelV x u
 | _, _, _, _, .nil, e => by simp at e
 | _, _, 0, _, .cons r _, e => by simp at e; subst e; exact ⟨_, rfl, r⟩
 | _, _, i + 1, x, .cons _ t, e => by
  obtain ⟨u, h1, h2⟩ := Vals.get (i := i) (x := x) t (by simpa using e)
  exact ⟨u, by simpa using h1, h2⟩
theorem Vals.set {x : V} {u : Value} (r : RelV x u) : ∀ {xs : List V} {us : List Value} (i : Nat), Vals xs us → Vals (xs.set i x) (us.set i u)
 | _, _, _, .nil => .nil
 | _, _, 0, .cons _ t => .cons r t
 | _, _, i + 1, .cons q t => .cons q (Vals.set r i t)
theorem Vals.append : ∀ {xs ys : List V} {us ws : List Value}, Vals xs us → Vals ys ws → Vals (xs ++ ys) (us ++ ws)
 | _, _, _, _, .nil, s => s
 | _, _, _, _, .cons r t, s => .cons r (Vals.append t s)
theorem Vals.take : ∀ {xs : List V} {us : List Value} (n : Nat), Vals xs us → Vals (xs.take n) (us.take n)
 | _, _, 0, _ => .nil
 | _, _, _ + 1, .nil => .nil
 | _, _, n + 1, .cons r t => .cons r (Vals.take n t)
theorem Vals.drop : ∀ {xs : List V} {us : List Value} (n : Nat), Vals xs us → Vals (xs.drop n) (us.drop n)
 | _, _, 0, r => r
 | _, _, _ + 1, .nil => .nil
 | _, _, n + 1, .cons _ t => Vals.drop n t
def RelO : Option V → Option Value → Prop
 | some v, some u => RelV v u
 | none, none => True
 | _, _ => False
def KV {κ : Type} : List (κ × V) → List (κ × Value) → Prop := Paired fun (p : κ × V) (q : κ × Value) => p.1 = q.1 ∧ RelV p.2 q.2
def kV : Key → V
 | .inl i => .int i
 | .inr x => .str x
inductive HO where
 /-- a list -/
 | lst (xs : List V)
 /-- a tuple (never changes) -/
 | tup (xs : List V)
 /-- a dict whose keys are ints and texts; one whose keys are tuples of ints and texts (the empty one is both) -/
 | dK (kvs : List (Key × V)) | dT (kvs : List (List Key × V))
 /-- a set of ints: its members, its size -/
 | set (S : Int → Bool) (n : Nat)
 /-- an instance of the class at C, its dict at dx, its attributes -/
 | ins (C dx : Addr) (fs : List (Str × V))
 /-- the dict of the instance at x -/
 | own (x : Addr)
 /-- the dict of an exception -/
 | xd (fs : List (Str × V))
 /-- a bound method, f of x -/
 | met (f x : Addr)
 /-- a range object lo, lo + 1, .. below hi -/
 | rng (lo hi : Int)
 /-- a thing that is known to the object (the script; a dict while a loop walks it): read, never written while it is so -/
 | frz (o : Obj) (u : HO)
 /-- a code object's table -/
 | tbl (ps : Array Value)
 /-- any other thing, by what is true of its one object (a def of one's own: SetO a S n := HO.ext fun h => ..) -/
 | ext (φ : Heap → Prop)
abbrev Hp := Addr → Option HO
def upd (H : Hp) (a : Addr) (o : HO) : Hp := fun b => if b = a then some o else H b
theorem upd_same {H : Hp} {a : Addr} {o : HO} : upd H a o a = some o := by unfold upd; rw [if_pos rfl]
theorem upd_ne {H : Hp} {a b : Addr} {o : HO} (h : b ≠ a) : upd H a o b = H b := by unfold upd; rw [if_neg h]
theorem ne_of {H : Hp} {a b : Addr} {o u : HO} (h : H a = some o) (h' : H b = some u) (d : o ≠ u) : a ≠ b := by
 intro e; subst e; rw [h] at h'; exact d (Option.some.inj h')
theorem ne_of_none {H : Hp} {a b : Addr} {o : HO} (h : H a = some o) (h' : H b = none) : a ≠ b := by
 intro e; subst e; rw [h] at h'; cases h'
section
variable (P : Program) (w : World)
def ObjOk (H : Hp) (h : Heap) (a : Addr) : HO → Prop
 | .lst xs => xs.length ≤ sizeLine ∧ ∃ (its : List Value) (n : Nat), Vals xs its ∧ h.get? a = some { cls := .type "list", data := .seq its.toArray n }
 | .tup xs => xs.length ≤ sizeLine ∧ ∃ its : List Value, Vals xs its ∧ IsTup h a its.toArray
 | .dK kvs => kvs.length ≤ sizeLine ∧ (a == sysModules) = false ∧ ∃ vs, KV kvs vs ∧ h.DictOf (mixKind P w) a vs
 | .dT kvs => kvs.length ≤ sizeLine ∧ (a == sysModules) = false ∧ ∃ xs : List (List Key × Addr × Value),
   Paired (fun (p : List Key × V) (q : List Key × Addr × Value) => p.1 = q.1 ∧ H q.2.1 = some (.tup (p.1.map kV)) ∧ RelV p.2 q.2.2) kvs xs ∧
   ∃ o es ep, h.get? a = some o ∧ o.ExactDict ∧ o.data = .dict es ep ∧ es.toList = xs.map (entryOfKey (tupleKind (mixKind P w))) ∧ (xs.map (·.1)).Nodup
 | .set S n => h.SetOf (intKind P w) a S n
 | .ins C dx fs => H dx = some (.own a) ∧ fs.length ≤ 1000 ∧ dx ≠ a ∧ h.get? a = some (PySem.W.instObj C dx) ∧
   ∃ mA, h.Ns1 dx mA ∧ (∀ f, RelO (fs.lookup f) (mA f)) ∧ PySem.Within mA (fs.map (·.1))
 | .own _ => ∃ o, h.get? a = some o
 | .xd fs => ∃ mA, h.Ns1 a mA ∧ ∀ f, RelO (fs.lookup f) (mA f)
 | .rng lo hi => ∃ t u v, h.get? a = some { cls := .type "range", data := .fields #[.int lo t, .int hi u, .int 1 v] }
 | .frz o u => h.get? a = some o ∧ ObjOk H h a u
 | .tbl ps => h.get? a = some { cls := .none, data := .fields ps }
 | .met f x => h.get? a = some (PySem.W.methodObj (.ref f) (.ref x))
 | .ext φ => φ h ∧ (∃ o, h.get? a = some o) ∧ ∀ h1 h2 : Heap, φ h1 → (∀ o, h1.get? a = some o → h2.get? a = some o) → φ h2
def HOk (H : Hp) (h : Heap) : Prop := ∀ a o, H a = some o → ObjOk P w H h a o
end
section
variable {P : Program} {w : World} {H H' : Hp} {h h' : Heap} {a : Addr} {o : HO}
theorem ObjOk.lt (x : ObjOk P w H h a o) : a < h.objs.size := by
 cases o with
 | lst xs => obtain ⟨_, _, _, _, e⟩ := x; exact Heap.lt_size e
 | tup xs => obtain ⟨_, _, _, p⟩ := x; exact p.lt
 | dK kvs => obtain ⟨_, _, _, _, o, _, _, e, _⟩ := x; exact Heap.lt_size e
 | dT kvs => obtain ⟨_, _, _, _, o, _, _, e, _⟩ := x; exact Heap.lt_size e
 | set S n => obtain ⟨o, _, _, _, e, _⟩ := x; exact Heap.lt_size e
 | ins C dx fs => obtain ⟨_, _, _, e, _⟩ := x; exact Heap.lt_size e
 | own y => obtain ⟨_, e⟩ := x; exact Heap.lt_size e
 | xd fs => obtain ⟨_, ⟨_, _, _, e, _⟩, _⟩ := x; exact Heap.lt_size e
 | rng lo hi => obtain ⟨_, _, _, e⟩ := x; exact Heap.lt_size e
 | frz ob u => obtain ⟨e, _⟩ := x; exact Heap.lt_size e
 | tbl ps => exact Heap.lt_size (show h.get? a = some _ from x)
 | met f y => exact Heap.lt_size (show h.get? a = some _ from x)
 | ext φ => obtain ⟨_, ⟨_, e⟩, _⟩ := x; exact Heap.lt_size e
theorem Paired.mapP {α β : Type} {F G : α → β → Prop} : ∀ {l₁ : List α} {l₂ : List β}, Paired F l₁ l₂ → (∀ a b, F a b → G a b) → Paired G l₁ l₂
 | _, _, .nil, _ => .nil
 | _, _, .cons r t, f => .cons (f _ _ r) (Paired.mapP t f)
theorem ObjOk.stay (x : ObjOk P w H h a o) (k : ∀ b u, (b = a ∨ H b = some (.own a)) → h.get? b = some u → h'.get? b = some u)
  (ho : ∀ b, H b = some (.own a) → H' b = some (.own a)) (ht : ∀ b xs, H b = some (.tup xs) → H' b = some (.tup xs)) : ObjOk P w H' h' a o := by
 induction o with
 | lst xs => obtain ⟨z, its, n, r, e⟩ := x; exact ⟨z, its, n, r, k _ _ (.inl rfl) e⟩
 | tup xs => obtain ⟨z, its, r, ob, e, c⟩ := x; exact ⟨z, its, r, ob, k _ _ (.inl rfl) e, c⟩
 | dK kvs => obtain ⟨z, y, vs, r, ob, es, ep, e, c⟩ := x; exact ⟨z, y, vs, r, ob, es, ep, k _ _ (.inl rfl) e, c⟩
 | dT kvs =>
  obtain ⟨z, y, xs, r, ob, es, ep, e, c⟩ := x
  exact ⟨z, y, xs, Paired.mapP r fun p q z => ⟨z.1, ht _ _ z.2.1, z.2.2⟩, ob, es, ep, k _ _ (.inl rfl) e, c⟩
 | set S n => obtain ⟨ob, es, ep, t, e, c⟩ := x; exact ⟨ob, es, ep, t, k _ _ (.inl rfl) e, c⟩
 | ins C dx fs =>
  obtain ⟨d, z, ne, e, mA, ⟨od, es, ep, e2, c⟩, r⟩ := x
  exact ⟨ho _ d, z, ne, k _ _ (.inl rfl) e, mA, ⟨od, es, ep, k _ _ (.inr d) e2, c⟩, r⟩
 | own y => obtain ⟨ob, e⟩ := x; exact ⟨ob, k _ _ (.inl rfl) e⟩
 | xd fs => obtain ⟨mA, ⟨od, es, ep, e, c⟩, r⟩ := x; exact ⟨mA, ⟨od, es, ep, k _ _ (.inl rfl) e, c⟩, r⟩
 | rng lo hi => obtain ⟨t, u, v, e⟩ := x; exact ⟨t, u, v, k _ _ (.inl rfl) e⟩
 | frz ob u ih => obtain ⟨e, q⟩ := x; exact ⟨k _ _ (.inl rfl) e, ih q⟩
 | tbl ps =>
  have e : h.get? a = some { cls := .none, data := .fields ps } := x
  show h'.get? a = some { cls := .none, data := .fields ps }
  exact k a _ (.inl rfl) e
 | met f y =>
  have e : h.get? a = some (PySem.W.methodObj (.ref f) (.ref y)) := x
  show h'.get? a = some (PySem.W.methodObj (.ref f) (.ref y))
  exact k a _ (.inl rfl) e
 | ext φ => obtain ⟨p, ⟨o, e⟩, st⟩ := x; exact ⟨st _ _ p fun o q => k _ _ (.inl rfl) q, ⟨o, k _ _ (.inl rfl) e⟩, st⟩
theorem HOk.lt (x : HOk P w H h) (e : H a = some o) : a < h.objs.size := (x a o e).lt
theorem HOk.fresh (x : HOk P w H h) (e : h.objs.size ≤ a) : H a = none := by
 cases q : H a with
 | none => rfl
 | some u => exact absurd (Nat.lt_of_lt_of_le (x.lt q) e) (Nat.lt_irrefl _)
theorem HOk.kept (x : HOk P w H h) (k : ∀ b u, h.get? b = some u → h'.get? b = some u) : HOk P w H h' := fun a o e =>
 (x a o e).stay (fun b u _ q => k b u q) (fun _ q => q) fun _ _ q => q
theorem HOk.laid (x : HOk P w H h) (k : ∀ b u, h.get? b = some u → h'.get? b = some u) (hp : h.objs.size ≤ a) (new : ObjOk P w (upd H a o) h' a o) : HOk P w (upd H a o) h' := fun b u e => by
 have hn := x.fresh hp
 by_cases hb : b = a
 ·subst hb; rw [upd_same] at e; cases e; exact new
 ·rw [upd_ne hb] at e
  exact (x b u e).stay (fun c v _ q => k c v q) (fun c q => by rw [upd_ne (ne_of_none q hn)]; exact q) fun c xs q => by rw [upd_ne (ne_of_none q hn)]; exact q
end
def Rd (H : Hp) (a : Addr) (u : HO) : Prop := H a = some u ∨ ∃ o, H a = some (.frz o u)
theorem Rd.of {H : Hp} {a : Addr} {u : HO} (h : H a = some u) : Rd H a u := .inl h
theorem Rd.ok {P : Program} {w : World} {H : Hp} {h : Heap} {a : Addr} {u : HO} (r : Rd H a u) (x : HOk P w H h) : ObjOk P w H h a u := by
 rcases r with r | ⟨o, r⟩
 ·exact x a u r
 ·obtain ⟨_, q⟩ := x a _ r
  exact q
def Mut : Option HO → Prop
 | some (.lst _) => True
 | some (.dK _) => True
 | some (.dT _) => True
 | some (.set _ _) => True
 | some (.ins _ _ _) => True
 | some (.ext _) => True
 | _ => False
section
variable {P : Program} {w : World} {H : Hp} {h h' : Heap} {x e : Addr} {o' : HO}
theorem HOk.write (ok : HOk P w H h) (mu : Mut (H x)) (he : e = x ∨ H e = some (.own x)) (k : ∀ b u, b ≠ e → h.get? b = some u → h'.get? b = some u) (heo : ∃ u, h'.get? e = some u)
  (new : ObjOk P w (upd H x o') h' x o') : HOk P w (upd H x o') h' := fun b u q => by
 have nown : ∀ c y, H c = some (.own y) → c ≠ x := fun c y r z => by subst z; rw [r] at mu; exact mu
 have ntup : ∀ c xs, H c = some (.tup xs) → c ≠ x := fun c xs r z => by subst z; rw [r] at mu; exact mu
 by_cases hb : b = x
 ·subst hb; rw [upd_same] at q; cases q; exact new
 ·rw [upd_ne hb] at q
  by_cases hbe : b = e
  ·have q' : H b = some (.own x) := by
    rcases he with z | z
    ·exact absurd (hbe.trans z) hb
    ·rw [hbe]; exact z
   rw [q] at q'; cases q'
   obtain ⟨v, hv⟩ := heo
   exact ⟨v, by rw [hbe]; exact hv⟩
  ·refine (ok b u q).stay (fun c v hc r => k c v ?_ r) (fun c r => by rw [upd_ne (nown c b r)]; exact r) fun c xs r => by rw [upd_ne (ntup c xs r)]; exact r
   rcases hc with rfl | hc
   ·exact hbe
   ·rintro rfl
    rcases he with z | z
    ·exact nown c b hc z
    ·rw [hc] at z; cases z; exact hb rfl
end
structure Un (fs ex : List Addr) (H H' : Hp) (h h' : Heap) : Prop where
 keep : ∀ b o, h.get? b = some o → H b = none → b ∉ fs → b ∉ ex → h'.get? b = some o
 slot : ∀ b o, h.get? b = some o → H b = none → b ∈ fs → b ∉ ex → ∃ sl, h'.get? b = some { o with slots := sl }
 free : ∀ b o, h.get? b = some o → H b = none → b ∉ ex → H' b = none
 there : ∀ b o, h.get? b = some o → b ∉ ex → ∃ o', h'.get? b = some o'
 tups : ∀ b xs, H b = some (.tup xs) → H' b = some (.tup xs)
 frzs : ∀ b o u, H b = some (.frz o u) → H' b = some (.frz o u)
 tbls : ∀ b ps, H b = some (.tbl ps) → ∃ more, H' b = some (.tbl (ps ++ more))
section
variable {fs fs' ex ex' : List Addr} {H H1 H2 : Hp} {h h1 h2 h' : Heap} {a x e : Addr} {o : HO}
theorem Un.any (u : Un fs ex H H1 h h1) {b : Addr} {ob : Obj} (q : h.get? b = some ob) (n : H b = none) (hx : b ∉ ex) : ∃ sl, h1.get? b = some { ob with slots := sl } := by
 by_cases hb : b ∈ fs
 ·exact u.slot b ob q n hb hx
 ·exact ⟨ob.slots, u.keep b ob q n hb hx⟩
theorem Un.kept (k : ∀ b u, h.get? b = some u → h'.get? b = some u) : Un fs ex H H h h' :=
 ⟨fun b ob q _ _ _ => k b ob q, fun b ob q _ _ _ => ⟨ob.slots, k b ob q⟩, fun _ _ _ n _ => n, fun b ob q _ => ⟨ob, k b ob q⟩, fun _ _ q => q, fun _ _ _ q => q, fun _ ps q => ⟨#[], by rw [q]; simp⟩⟩
theorem Un.refl : Un fs ex H H h h := Un.kept fun _ _ q => q
theorem Un.laid (k : ∀ b u, h.get? b = some u → h'.get? b = some u) (hp : h.objs.size ≤ a) (hn : H a = none) : Un fs ex H (upd H a o) h h' where
 keep := fun b u q _ _ _ => k b u q
 slot := fun b u q _ _ _ => ⟨u.slots, k b u q⟩
 free := fun b u q n _ => by rw [upd_ne (Nat.ne_of_lt (Nat.lt_of_lt_of_le (Heap.lt_size q) hp))]; exact n
 there := fun b u q _ => ⟨u, k b u q⟩
 tups := fun b xs q => by rw [upd_ne (ne_of_none q hn)]; exact q
 frzs := fun b u xs q => by rw [upd_ne (ne_of_none q hn)]; exact q
 tbls := fun b ps q => ⟨#[], by rw [upd_ne (ne_of_none q hn), q]; simp⟩
theorem Un.write (mu : Mut (H x)) (he : e = x ∨ H e = some (.own x)) (k : ∀ b u, b ≠ e → h.get? b = some u → h'.get? b = some u) (heo : ∃ u, h'.get? e = some u) : Un fs ex H (upd H x o) h h' := by
 have hx : ∀ b, H b = none → b ≠ x := fun b n z => by subst z; rw [n] at mu; exact mu
 have hb : ∀ b, H b = none → b ≠ e := fun b n z => by
  subst z
  rcases he with r | r
  ·exact hx b n r
  ·rw [n] at r; cases r
 have hm : ∀ b u, H b = some u → ¬ Mut (some u) → b ≠ x := fun b u q nm z => by subst z; rw [q] at mu; exact nm mu
 refine ⟨fun b u q n _ _ => k b u (hb b n) q, fun b u q n _ _ => ⟨u.slots, k b u (hb b n) q⟩, fun b u q n _ => by rw [upd_ne (hx b n)]; exact n, fun b u q _ => ?_,
  fun b xs q => by rw [upd_ne (hm b _ q fun z => z)]; exact q, fun b u xs q => by rw [upd_ne (hm b _ q fun z => z)]; exact q, fun b ps q => ⟨#[], by rw [upd_ne (hm b _ q fun z => z), q]; simp⟩⟩
 by_cases hbe : b = e
 ·subst hbe; exact heo
 ·exact ⟨u, k b u hbe q⟩
end
def trk (h : Heap) (H : Hp) : List Addr := (List.range h.objs.size).filter fun a => (H a).isSome
def hidT (h : Heap) (H : Hp) : Heap := PySem.W.hideAll h (trk h H)
theorem hidT_size (h : Heap) (H : Hp) : (hidT h H).objs.size = h.objs.size := PySem.W.hideAll_size _ _
theorem hidT_get {h : Heap} {H : Hp} {b : Addr} {o : Obj} (e : h.get? b = some o) (n : H b = none) : (hidT h H).get? b = some o :=
 PySem.W.hideAll_get _ e fun hm => by
  have q : (H b).isSome = true := (List.mem_filter.mp hm).2
  rw [n] at q; simp at q
theorem of_hidT {h : Heap} {H : Hp} {b : Addr} {o : Obj} (e : (hidT h H).get? b = some o) : h.get? b = some o ∧ H b = none := by
 have e' : h.get? b = some o := PySem.W.of_hideAll (trk h H) e
 refine ⟨e', ?_⟩
 cases q : H b with
 | none => rfl
 | some x =>
  have hm : b ∈ trk h H := List.mem_filter.mpr ⟨List.mem_range.mpr (Heap.lt_size e'), by simp [q]⟩
  have z : (hidT h H).get? b = none := PySem.W.hideAll_none (trk h H) hm
  rw [z] at e; cases e
end L2
namespace L2
open PySem PySem.Spec PyProof.Rows
structure Mod (K : PySem.W.Frag) (mg : Str → Option Value) (base : Heap) : Prop where
 kin : K.In base
 glob : base.Ns mainGlobals mg
 blt : ∃ mb, base.Ns builtinsNs mb ∧ ∀ x : Str, x ≠ "__name__" → mb x = bootBuiltins x
 nolimit : base.NoLimit
structure Cx where
 prog : Program
 w : World
 K : PySem.W.Frag
 mg : Str → Option Value
 base : Heap
 A : Around
 N : List Str
 s_0 : Shared
 H_0 : Hp
 env : Env
 outer : List Env
 stack : List Env
 ex : List Addr
 fn : Str → Bool
 calm : Bool
 pn : List (Addr × Obj)
 xe : Value → Shared → Prop
def frs (l : List Env) : List Addr := l.filterMap (·.frame)
abbrev Cx.fs (X : Cx) : List Addr := frs X.outer
def Vis (sc : Scope) (x : Str) : Prop := sc.names.lookup x = some .local ∨ sc.names.lookup x = some .cell ∨ sc.names.lookup x = some .free
def Loc (sc : Scope) (x : Str) : Prop := sc.names.lookup x = some .local ∨ sc.names.lookup x = some .cell
def Look (env : Env) (h : Heap) (m : Str → Option Value) (x : Str) (u : Value) : Prop :=
 (env.kindOf x = some .local ∧ m x = some u) ∨ ((env.kindOf x = some .cell ∨ env.kindOf x = some .free) ∧ ∃ c, env.cells.lookup x = some c ∧ h.IsCell c (some u))
structure Cx.Ok (X : Cx) : Prop where
 mod : Mod X.K X.mg X.base
 kind : X.env.scope.kind = .function
 glob : X.env.globals = mainGlobals
 blt : X.env.builtins = builtinsNs
 above : X.s_0.heap.objs.size ≤ X.env.locals
 inj : ∀ x y c, X.env.cells.lookup x = some c → X.env.cells.lookup y = some c → x = y
 has : ∀ x, (X.env.kindOf x = some .cell ∨ X.env.kindOf x = some .free) → ∃ c, X.env.cells.lookup x = some c
 cab : ∀ x c, X.fn x = true → X.env.cells.lookup x = some c → X.s_0.heap.objs.size ≤ c
 hd : X.calm = true → X.A.handled = none
 frames : X.A.frames = some X.stack
 stk : X.stack = X.outer ∨ (X.stack = X.env :: X.outer ∧ X.env.frame = some X.env.locals)
 exf : ∀ b ∈ X.ex, b ≠ X.env.locals ∧ ∀ x c, X.env.cells.lookup x = some c → c ≠ b
 bs : ∀ b o, X.base.get? b = some o → X.s_0.heap.get? b = some o ∧ X.H_0 b = none
 bsz : X.base.objs.size ≤ X.s_0.heap.objs.size
 noex : ∀ b o, X.base.get? b = some o → b ∉ X.ex
 exfs : ∀ b ∈ X.ex, b ∉ X.fs
 funs : X.s_0.heap.FunFrames X.base X.outer
 frf : ∀ b ∈ X.fs, X.H_0 b = none
structure Inv (X : Cx) (pins : List (Addr × Obj)) (σ : List (Option V)) (H : Hp) (s : Shared) : Prop where
 ok : X.Ok
 os : s.os = X.s_0.os
 bare : AllBare s.gens
 base : Un X.fs X.ex X.H_0 H X.s_0.heap s.heap
 loc : ∃ m, s.heap.Ns X.env.locals m ∧ ∀ (i : Nat) (x : Str) (v : V), X.N[i]? = some x → σ[i]? = some (some v) → Vis X.env.scope x → ∃ u, RelV v u ∧ Look X.env s.heap m x u
 cell : ∀ x c, X.env.cells.lookup x = some c → ∃ v, s.heap.IsCell c v
 free : H X.env.locals = none
 freeC : ∀ x c, X.env.cells.lookup x = some c → H c = none
 pin : ∀ p ∈ X.pn ++ pins, s.heap.get? p.1 = some p.2 ∧ H p.1 = none ∧ p.1 ≠ X.env.locals ∧ p.1 ∉ X.fs ∧ ∀ v, p.2.data ≠ .cell v
 hok : HOk X.prog X.w H s.heap
 len : σ.length = X.N.length
section
variable {X : Cx} {pins : List (Addr × Obj)} {σ : List (Option V)} {H H' : Hp} {s : Shared} {h' : Heap}
theorem Cx.Ok.nofr (ok : X.Ok) {b : Addr} {o : Obj} (e : X.base.get? b = some o) : b ∉ X.fs := fun hb => by
 have := (ok.funs.mem hb).1
 rw [e] at this; cases this
theorem Inv.bs (I : Inv X pins σ H s) : ∀ b o, X.base.get? b = some o → s.heap.get? b = some o ∧ H b = none := fun b o e =>
 ⟨I.base.keep b o (I.ok.bs b o e).1 (I.ok.bs b o e).2 (I.ok.nofr e) (I.ok.noex b o e), I.base.free b o (I.ok.bs b o e).1 (I.ok.bs b o e).2 (I.ok.noex b o e)⟩
theorem Inv.bk (I : Inv X pins σ H s) : ∀ b o, X.base.get? b = some o → s.heap.get? b = some o := fun b o e => (I.bs b o e).1
theorem Inv.mod (I : Inv X pins σ H s) : Mod X.K X.mg X.base := I.ok.mod
theorem Inv.kIn (I : Inv X pins σ H s) : X.K.In s.heap := I.ok.mod.kin.keeps I.bk
theorem Inv.lt (I : Inv X pins σ H s) : X.env.locals < s.heap.objs.size := let ⟨_, hn, _⟩ := I.loc; hn.lt
theorem Inv.sz (I : Inv X pins σ H s) : X.s_0.heap.objs.size ≤ s.heap.objs.size := Nat.le_trans I.ok.above (Nat.le_of_lt I.lt)
theorem Inv.nofs (I : Inv X pins σ H s) {a : Addr} (h : s.heap.objs.size ≤ a) : a ∉ X.fs := fun hb => by
 obtain ⟨_, o, ho, _⟩ := I.ok.funs.mem hb
 exact absurd (Nat.lt_of_lt_of_le (Heap.lt_size ho) (Nat.le_trans I.sz h)) (Nat.lt_irrefl _)
theorem Inv.cne (I : Inv X pins σ H s) : ∀ x c, X.env.cells.lookup x = some c → c ≠ X.env.locals := fun x c e z => by
 obtain ⟨v, o, ho, hd⟩ := I.cell x c e
 obtain ⟨m, ⟨o', es, ep, ho', hd', _⟩, _⟩ := I.loc
 rw [z, ho'] at ho; cases ho; rw [hd'] at hd; cases hd
theorem Inv.funs (I : Inv X pins σ H s) : s.heap.FunFrames X.base X.outer := by
 have all : ∀ (l : List Env), (∀ b ∈ frs l, b ∈ X.fs) → X.s_0.heap.FunFrames X.base l → s.heap.FunFrames X.base l := by
  intro l
  induction l with
  | nil => intro _ _; trivial
  | cons env r ih =>
   intro hs hl
   obtain ⟨hk, ⟨L, o, hf, hn, ho, hd⟩, hr⟩ := hl
   have hL : L ∈ X.fs := hs L (by unfold frs; rw [List.filterMap_cons, hf]; exact List.mem_cons_self)
   obtain ⟨sl, e⟩ := I.base.slot L o ho (I.ok.frf L hL) hL fun z => I.ok.exfs L z hL
   exact ⟨hk, ⟨L, _, hf, hn, e, hd⟩, ih (fun b hb => hs b (by unfold frs; rw [List.filterMap_cons, hf]; exact List.mem_cons_of_mem _ hb)) hr⟩
 exact all X.outer (fun _ hb => hb) I.ok.funs
theorem Inv.stack (I : Inv X pins σ H s) : s.heap.FunFrames X.base X.stack := by
 rcases I.ok.stk with e | ⟨e, hf⟩
 ·rw [e]; exact I.funs
 ·rw [e]
  obtain ⟨m, hn, _⟩ := I.loc
  refine .cons (by rw [I.ok.kind]; decide) hf hn ?_ I.funs
  exact Heap.get?_none_of_le (Nat.le_trans I.ok.bsz I.ok.above)
theorem Inv.stkSub (I : Inv X pins σ H s) : ∀ b ∈ frs X.stack, b ∈ X.env.locals :: X.fs := fun b hb => by
 rcases I.ok.stk with e | ⟨e, hf⟩
 ·rw [e] at hb; exact List.mem_cons_of_mem _ hb
 ·rw [e] at hb
  unfold frs at hb
  rw [List.filterMap_cons, hf] at hb
  exact hb
theorem Inv.stkFree (I : Inv X pins σ H s) : ∀ b ∈ frs X.stack, H b = none := fun b hb => by
 rcases List.mem_cons.mp (I.stkSub b hb) with e | hb
 ·rw [e]; exact I.free
 ·obtain ⟨_, o, ho, _⟩ := I.ok.funs.mem hb
  exact I.base.free b o ho (I.ok.frf b hb) fun z => I.ok.exfs b z hb
theorem Inv.step {g' : Array GenState} {t' : Nat} {d' : Drawn} {ch : List Addr} (I : Inv X pins σ H s)
  (hch : ∀ b ∈ ch, (b ∈ X.ex ∨ X.s_0.heap.objs.size ≤ b) ∧ b ≠ X.env.locals ∧ (∀ x c, X.env.cells.lookup x = some c → c ≠ b) ∧ ∀ p ∈ X.pn ++ pins, p.1 ≠ b)
  (keep : ∀ b o, b ≠ X.env.locals → b ∉ X.fs → b ∉ ch → s.heap.get? b = some o → H b = none → h'.get? b = some o)
  (slot : ∀ b o, b ≠ X.env.locals → b ∈ X.fs → b ∉ ch → s.heap.get? b = some o → H b = none → ∃ sl, h'.get? b = some { o with slots := sl }) (free : ∀ b o, b ∉ ch → s.heap.get? b = some o → H b = none → H' b = none)
  (there : ∀ b o, b ∉ ch → s.heap.get? b = some o → ∃ o', h'.get? b = some o')
  (tups : ∀ b xs, H b = some (.tup xs) → H' b = some (.tup xs)) (frzs : ∀ b o u, H b = some (.frz o u) → H' b = some (.frz o u)) (tbls : ∀ b ps, H b = some (.tbl ps) → ∃ more, H' b = some (.tbl (ps ++ more)))
  (ns : ∀ m, s.heap.Ns X.env.locals m → h'.Ns X.env.locals m) (hok : HOk X.prog X.w H' h') (hg : AllBare g') :
  Inv X pins σ H' { s with heap := h', gens := g', drawn := d', toks := t' } := by
 have neL : ∀ b o, X.s_0.heap.get? b = some o → b ≠ X.env.locals := fun b o e => Nat.ne_of_lt (Nat.lt_of_lt_of_le (Heap.lt_size e) I.ok.above)
 have neC : ∀ b o, X.s_0.heap.get? b = some o → b ∉ X.ex → b ∉ ch := fun b o e hx hb => by
  rcases (hch b hb).1 with z | z
  ·exact hx z
  ·exact absurd (Nat.lt_of_lt_of_le (Heap.lt_size e) z) (Nat.lt_irrefl _)
 have cellK : ∀ x c, X.env.cells.lookup x = some c → ∀ v, s.heap.IsCell c v → h'.IsCell c v := fun x c e v ⟨o, ho, hd⟩ => by
  have nch : c ∉ ch := fun z => (hch c z).2.2.1 x c e rfl
  by_cases hc : c ∈ X.fs
  ·obtain ⟨sl, q⟩ := slot c o (I.cne x c e) hc nch ho (I.freeC x c e)
   exact ⟨_, q, hd⟩
  ·exact ⟨o, keep c o (I.cne x c e) hc nch ho (I.freeC x c e), hd⟩
 refine ⟨I.ok, I.os, hg, ⟨fun b o e n hb hx => ?_, fun b o e n hb hx => ?_, fun b o e n hx => ?_, fun b o e hx => ?_, fun b xs e => tups b xs (I.base.tups b xs e), fun b o xs e => frzs b o xs (I.base.frzs b o xs e), fun b ps e => ?_⟩, ?_, fun x c e => ?_, ?_, fun x c e => ?_, fun p hp => ?_, hok, I.len⟩
 ·exact keep b o (neL b o e) hb (neC b o e hx) (I.base.keep b o e n hb hx) (I.base.free b o e n hx)
 ·obtain ⟨sl, e1⟩ := I.base.slot b o e n hb hx
  obtain ⟨sl', e2⟩ := slot b _ (neL b o e) hb (neC b o e hx) e1 (I.base.free b o e n hx)
  exact ⟨sl', e2⟩
 ·obtain ⟨o', e1⟩ := I.base.there b o e hx
  exact free b o' (neC b o e hx) e1 (I.base.free b o e n hx)
 ·obtain ⟨o', e1⟩ := I.base.there b o e hx
  exact there b o' (neC b o e hx) e1
 ·obtain ⟨m1, e1⟩ := I.base.tbls b ps e
  obtain ⟨m2, e2⟩ := tbls b _ e1
  exact ⟨m1 ++ m2, by rw [e2, Array.append_assoc]⟩
 ·obtain ⟨m, hn, hl⟩ := I.loc
  refine ⟨m, ns m hn, fun i x v e1 e2 e3 => ?_⟩
  obtain ⟨u, r, l⟩ := hl i x v e1 e2 e3
  refine ⟨u, r, ?_⟩
  rcases l with l | ⟨k, c, e, z⟩
  ·exact .inl l
  ·exact .inr ⟨k, c, e, cellK x c e _ z⟩
 ·obtain ⟨v, z⟩ := I.cell x c e
  exact ⟨v, cellK x c e v z⟩
 ·obtain ⟨m, ⟨o, _, _, ho, _⟩, _⟩ := I.loc
  exact free _ o (fun z => (hch _ z).2.1 rfl) ho I.free
 ·obtain ⟨v, o, ho, hd⟩ := I.cell x c e
  exact free c o (fun z => (hch c z).2.2.1 x c e rfl) ho (I.freeC x c e)
 ·obtain ⟨e, n, ne, nf, d⟩ := I.pin p hp
  have nch : p.1 ∉ ch := fun z => (hch p.1 z).2.2.2 p hp rfl
  exact ⟨keep p.1 p.2 ne nf nch e n, free p.1 p.2 nch e n, ne, nf, d⟩
theorem Inv.un {t' : Nat} (I : Inv X pins σ H s) (u : Un X.fs [] H H' s.heap h') (hok : HOk X.prog X.w H' h') : Inv X pins σ H' { s with heap := h', toks := t' } := by
 obtain ⟨m, ⟨o, es, ep, ho, r⟩, _⟩ := id I.loc
 obtain ⟨sl, hL⟩ := u.any ho I.free (by simp)
 exact I.step (g' := s.gens) (d' := s.drawn) (ch := []) (fun _ z => nomatch z) (fun b o _ hb _ e n => u.keep b o e n hb (by simp)) (fun b o _ hb _ e n => u.slot b o e n hb (by simp)) (fun b o _ e n => u.free b o e n (by simp)) (fun b o _ e => u.there b o e (by simp)) u.tups u.frzs u.tbls (fun m' hm => by
  obtain ⟨o', es', ep', ho', r'⟩ := hm
  rw [ho] at ho'; cases ho'
  exact ⟨_, es', ep', hL, r'⟩) hok I.bare
theorem Inv.call {g' : Array GenState} {t' : Nat} {d' : Drawn} {ch : List Addr} (I : Inv X pins σ H s) (u : Un (frs X.stack) ch H H' s.heap h') (hok : HOk X.prog X.w H' h') (hg : AllBare g')
  (hch : ∀ b ∈ ch, (b ∈ X.ex ∨ X.s_0.heap.objs.size ≤ b) ∧ b ≠ X.env.locals ∧ (∀ x c, X.env.cells.lookup x = some c → c ≠ b) ∧ ∀ p ∈ X.pn ++ pins, p.1 ≠ b) :
  Inv X pins σ H' { s with heap := h', gens := g', drawn := d', toks := t' } := by
 obtain ⟨m, ⟨o, es, ep, ho, r⟩, _⟩ := id I.loc
 obtain ⟨sl, hL⟩ := u.any ho I.free fun z => (hch _ z).2.1 rfl
 exact I.step (ch := ch) hch (fun b o hL hb hc e n => u.keep b o e n (fun z => (List.mem_cons.mp (I.stkSub b z)).elim hL hb) hc) (fun b o _ _ hc e n => u.any e n hc) (fun b o hc e n => u.free b o e n hc) (fun b o hc e => u.there b o e hc) u.tups u.frzs u.tbls (fun m' hm => by
  obtain ⟨o', es', ep', ho', r'⟩ := hm
  rw [ho] at ho'; cases ho'
  exact ⟨_, es', ep', hL, r'⟩) hok hg
theorem Inv.turned {t' : Nat} {it : Addr} (I : Inv X pins σ H s) (k : ∀ b o, b ≠ it → s.heap.get? b = some o → h'.get? b = some o) (hn : H it = none) (hL : it ≠ X.env.locals)
  (h1 : it ∈ X.ex ∨ X.s_0.heap.objs.size ≤ it) (h2 : ∀ x c, X.env.cells.lookup x = some c → c ≠ it) (h3 : ∀ p ∈ X.pn ++ pins, p.1 ≠ it) : Inv X pins σ H { s with heap := h', toks := t' } := by
 have nit : ∀ b u, H b = some u → b ≠ it := fun b u e z => by rw [z, hn] at e; cases e
 refine I.step (g' := s.gens) (d' := s.drawn) (ch := [it]) (fun b hb => ?_) (fun b o _ _ hc e _ => k b o (fun z => hc (by simp [z])) e) (fun b o _ _ hc e _ => ⟨o.slots, k b o (fun z => hc (by simp [z])) e⟩) (fun _ _ _ _ n => n)
  (fun b o hc e => ⟨o, k b o (fun z => hc (by simp [z])) e⟩) (fun _ _ e => e) (fun _ _ _ e => e) (fun b ps e => ⟨#[], by rw [e]; simp⟩) (fun m hm => ?_) (fun b u e => ?_) I.bare
 ·have e : b = it := by simpa using hb
  subst e
  exact ⟨h1, hL, h2, h3⟩
 ·obtain ⟨o, es, ep, ho, r⟩ := hm
  exact ⟨o, es, ep, k _ o (Ne.symm hL) ho, r⟩
 ·refine (I.hok b u e).stay (fun c v hc q => k c v ?_ q) (fun _ q => q) fun _ _ q => q
  rcases hc with z | z
  ·rw [z]; exact nit b u e
  ·exact nit c _ z
theorem Inv.tok (I : Inv X pins σ H s) (t : Nat) : Inv X pins σ H { s with toks := t } := I.un (h' := s.heap) (t' := t) Un.refl I.hok
theorem Inv.kept {t' : Nat} (I : Inv X pins σ H s) (k : ∀ b u, s.heap.get? b = some u → h'.get? b = some u) : Inv X pins σ H { s with heap := h', toks := t' } := I.un (Un.kept k) (I.hok.kept k)
theorem Inv.laid {a : Addr} {o : HO} {t' : Nat} (I : Inv X pins σ H s) (k : ∀ b u, s.heap.get? b = some u → h'.get? b = some u) (hp : s.heap.objs.size ≤ a) (new : ObjOk X.prog X.w (upd H a o) h' a o) :
  Inv X pins σ (upd H a o) { s with heap := h', toks := t' } := I.un (Un.laid k hp (I.hok.fresh hp)) (I.hok.laid k hp new)
theorem Inv.write {x e : Addr} {o : HO} {t' : Nat} (I : Inv X pins σ H s) (mu : Mut (H x)) (he : e = x ∨ H e = some (.own x)) (k : ∀ b u, b ≠ e → s.heap.get? b = some u → h'.get? b = some u) (heo : ∃ u, h'.get? e = some u)
  (new : ObjOk X.prog X.w (upd H x o) h' x o) : Inv X pins σ (upd H x o) { s with heap := h', toks := t' } := I.un (Un.write mu he k heo) (I.hok.write mu he k heo new)
theorem Inv.weak {σ' : List (Option V)} (I : Inv X pins σ H s) (hl : σ'.length = σ.length) (w : ∀ (i : Nat) v, σ'[i]? = some (some v) → σ[i]? = some (some v)) : Inv X pins σ' H s :=
 ⟨I.ok, I.os, I.bare, I.base, let ⟨m, hn, hl'⟩ := I.loc; ⟨m, hn, fun i x v e1 e2 e3 => hl' i x v e1 (w i v e2) e3⟩, I.cell, I.free, I.freeC, I.pin, I.hok, hl.trans I.len⟩
theorem Inv.pins_of {pins' : List (Addr × Obj)} (I : Inv X pins σ H s) (h : ∀ p ∈ pins', s.heap.get? p.1 = some p.2 ∧ H p.1 = none ∧ p.1 ≠ X.env.locals ∧ p.1 ∉ X.fs ∧ ∀ v, p.2.data ≠ .cell v) : Inv X pins' σ H s :=
 ⟨I.ok, I.os, I.bare, I.base, I.loc, I.cell, I.free, I.freeC, fun p hp => (List.mem_append.mp hp).elim (fun z => I.pin p (List.mem_append_left _ z)) (h p), I.hok, I.len⟩
theorem nodup_ix {N : List Str} (hN : N.Nodup) {i j : Nat} {x : Str} (a : N[i]? = some x) (b : N[j]? = some x) : i = j := by
 obtain ⟨h1, e1⟩ := List.getElem?_eq_some_iff.mp a
 obtain ⟨h2, e2⟩ := List.getElem?_eq_some_iff.mp b
 exact (List.getElem_inj hN).mp (e1.trans e2.symm)
theorem store_ok2 {M : Model} {A : Around} {E : Value → Shared → Prop} {i : Nat} {x : Str} {v : V} {u : Value} {Q : Unit → Shared → Prop} (I : Inv X pins σ H s) (hN : X.N.Nodup) (hi : X.N[i]? = some x) (hx : Loc X.env.scope x) (r : RelV v u)
  (h : ∀ s', Inv X pins (σ.set i (some v)) H s' → (∃ a, Heap.SameBut a s.heap s'.heap ∧ (a = X.env.locals ∨ X.env.cells.lookup x = some a)) → Q () s') (hf : X.fn x = true ∨ X.env.scope.names.lookup x = some .local := by first | exact .inl rfl | exact .inr rfl | assumption) : wpAny M A (storeName X.env x u) Q E s := by
 obtain ⟨m, hn, hl⟩ := id I.loc
 have hcls : (X.env.scope.kind == .class || (X.env.scope.kind == .module && X.env.locals != X.env.globals)) = false := by rw [I.ok.kind]; rfl
 have hiσ : i < σ.length := by rw [I.len]; exact (List.getElem?_eq_some_iff.mp hi).1
 have cne := I.cne
 have tracked : ∀ {a : Addr} {h' : Heap}, (∃ o, s.heap.get? a = some o ∧ H a = none) → Heap.SameBut a s.heap h' → HOk X.prog X.w H h' := fun {a h'} ha hs b ob e => by
  obtain ⟨_, _, hfree⟩ := ha
  refine (I.hok b ob e).stay (fun c w' hc q => (hs.2 c ?_).trans q) (fun _ q => q) fun _ _ q => q
  rintro rfl
  rcases hc with rfl | hc
  ·rw [hfree] at e; cases e
  ·rw [hfree] at hc; cases hc
 rcases hx with hk | hk
 ·refine wpAny_storeName_local hk hn (fun h' hn' hs => ?_) hcls
  obtain ⟨oL, _, _, hoL, _⟩ := id hn
  refine h _ ⟨I.ok, I.os, I.bare, ⟨fun b o e n hb hx => ?_, fun b o e n hb hx => ?_, I.base.free, fun b o e hx => ?_, I.base.tups, I.base.frzs, I.base.tbls⟩, ⟨_, hn', fun j y v' e1 e2 e3 => ?_⟩, fun y c e => ?_, I.free, I.freeC, fun p hp => ?_, tracked ⟨oL, hoL, I.free⟩ hs, by simpa using I.len⟩ ⟨_, hs, .inl rfl⟩
  ·exact (hs.2 b (Nat.ne_of_lt (Nat.lt_of_lt_of_le (Heap.lt_size e) I.ok.above))).trans (I.base.keep b o e n hb hx)
  ·obtain ⟨sl, e1⟩ := I.base.slot b o e n hb hx
   exact ⟨sl, (hs.2 b (Nat.ne_of_lt (Nat.lt_of_lt_of_le (Heap.lt_size e) I.ok.above))).trans e1⟩
  ·obtain ⟨o', e1⟩ := I.base.there b o e hx
   exact ⟨o', (hs.2 b (Nat.ne_of_lt (Nat.lt_of_lt_of_le (Heap.lt_size e) I.ok.above))).trans e1⟩
  ·by_cases hj : j = i
   ·subst hj
    rw [hi] at e1; cases e1
    rw [List.getElem?_set_self hiσ] at e2
    cases e2
    exact ⟨u, r, .inl ⟨hk, by simp⟩⟩
   ·rw [List.getElem?_set_ne (Ne.symm hj)] at e2
    obtain ⟨u', r', q⟩ := hl j y v' e1 e2 e3
    refine ⟨u', r', ?_⟩
    rcases q with ⟨k, e⟩ | ⟨k, c, e, z⟩
    ·refine .inl ⟨k, ?_⟩
     have : y ≠ x := fun e => hj (nodup_ix hN e1 (e ▸ hi))
     simp [this, e]
    ·exact .inr ⟨k, c, e, z.sameBut hs (cne y c e)⟩
  ·obtain ⟨w', z⟩ := I.cell y c e
   exact ⟨w', z.sameBut hs (cne y c e)⟩
  ·obtain ⟨e, n, ne, nf, d⟩ := I.pin p hp
   exact ⟨(hs.2 p.1 ne).trans e, n, ne, nf, d⟩
 ·have hfn : X.fn x = true := by
   rcases hf with z | z
   ·exact z
   ·rw [z] at hk; cases hk
  obtain ⟨c, hc⟩ := I.ok.has x (.inl hk)
  obtain ⟨w', z⟩ := I.cell x c hc
  refine wpAny_storeName_cell I.ok.kind hk hc z (fun h' hc' hs => ?_)
  obtain ⟨oc, hoc, hocd⟩ := id z
  refine h { s with heap := h' } ⟨I.ok, I.os, I.bare, ⟨fun b o e n hb hx => ?_, fun b o e n hb hx => ?_, I.base.free, fun b o e hx => ?_, I.base.tups, I.base.frzs, I.base.tbls⟩, ⟨m, hn.sameBut hs (Ne.symm (cne x c hc)), fun j y v' e1 e2 e3 => ?_⟩, fun y c' e => ?_, I.free, I.freeC, fun p hp => ?_, tracked ⟨oc, hoc, I.freeC x c hc⟩ hs, by simpa using I.len⟩ ⟨c, hs, .inr hc⟩
  ·exact (hs.2 b (Nat.ne_of_lt (Nat.lt_of_lt_of_le (Heap.lt_size e) (I.ok.cab x c hfn hc)))).trans (I.base.keep b o e n hb hx)
  ·obtain ⟨sl, e1⟩ := I.base.slot b o e n hb hx
   exact ⟨sl, (hs.2 b (Nat.ne_of_lt (Nat.lt_of_lt_of_le (Heap.lt_size e) (I.ok.cab x c hfn hc)))).trans e1⟩
  ·obtain ⟨o', e1⟩ := I.base.there b o e hx
   exact ⟨o', (hs.2 b (Nat.ne_of_lt (Nat.lt_of_lt_of_le (Heap.lt_size e) (I.ok.cab x c hfn hc)))).trans e1⟩
  ·by_cases hj : j = i
   ·subst hj
    rw [hi] at e1; cases e1
    rw [List.getElem?_set_self hiσ] at e2
    cases e2
    exact ⟨u, r, .inr ⟨.inl hk, c, hc, hc'⟩⟩
   ·rw [List.getElem?_set_ne (Ne.symm hj)] at e2
    obtain ⟨u', r', q⟩ := hl j y v' e1 e2 e3
    refine ⟨u', r', ?_⟩
    rcases q with q | ⟨k, c', e, z'⟩
    ·exact .inl q
    ·refine .inr ⟨k, c', e, z'.sameBut hs ?_⟩
     rintro rfl
     exact hj (nodup_ix hN e1 (I.ok.inj _ _ _ e hc ▸ hi))
  ·by_cases hcc : c' = c
   ·subst hcc; exact ⟨_, hc'⟩
   ·obtain ⟨w2, z2⟩ := I.cell y c' e
    exact ⟨w2, z2.sameBut hs hcc⟩
  ·obtain ⟨e, n, ne, nf, d⟩ := I.pin p hp
   refine ⟨(hs.2 p.1 ?_).trans e, n, ne, nf, d⟩
   intro q
   rw [q, hoc] at e
   have q' : oc = p.2 := Option.some.inj e
   exact d w' (by rw [← q']; exact hocd)
theorem store_ok {M : Model} {A : Around} {E : Value → Shared → Prop} {i : Nat} {x : Str} {v : V} {u : Value} {Q : Unit → Shared → Prop} (I : Inv X pins σ H s) (hN : X.N.Nodup) (hi : X.N[i]? = some x) (hx : Loc X.env.scope x) (r : RelV v u)
  (h : ∀ s', Inv X pins (σ.set i (some v)) H s' → Q () s') (hf : X.fn x = true ∨ X.env.scope.names.lookup x = some .local := by first | exact .inl rfl | exact .inr rfl | assumption) : wpAny M A (storeName X.env x u) Q E s :=
 store_ok2 I hN hi hx r (fun s' I' _ => h s' I') hf
theorem Inv.call' {s' : Shared} {ch : List Addr} (I : Inv X pins σ H s) (ho : s'.os = s.os) (u : Un (frs X.stack) ch H H' s.heap s'.heap) (hok : HOk X.prog X.w H' s'.heap) (hg : AllBare s'.gens)
  (hch : ∀ b ∈ ch, (b ∈ X.ex ∨ X.s_0.heap.objs.size ≤ b) ∧ b ≠ X.env.locals ∧ (∀ x c, X.env.cells.lookup x = some c → c ≠ b) ∧ ∀ p ∈ X.pn ++ pins, p.1 ≠ b) : Inv X pins σ H' s' := by
 obtain ⟨h', g', d', t', o'⟩ := s'
 have e : o' = s.os := ho
 subst e
 exact I.call (g' := g') (t' := t') (d' := d') u hok hg hch
end
abbrev XK := Value → Option Addr → Hp → Prop
abbrev St := List (Option V)
abbrev VK := V → Hp → Prop
abbrev TE := St → Hp → VK → Prop
abbrev TT := St → Hp → (Bool → Hp → Prop) → Prop
abbrev TA := St → Hp → (List V → Hp → Prop) → Prop
structure Ends where
 nx : St → Hp → Prop
 rt : VK
 bk : St → Hp → Prop := fun _ _ => False
 ct : St → Hp → Prop := fun _ _ => False
abbrev TS := Ends → St → Hp → Prop
def EP (X : Cx) (pins : List (Addr × Obj)) (σ : St) (Q : VK) (u : Value) (s' : Shared) : Prop := ∃ v H', Inv X pins σ H' s' ∧ RelV v u ∧ Q v H'
def TP (X : Cx) (pins : List (Addr × Obj)) (σ : St) (Q : Bool → Hp → Prop) (b : Bool) (s' : Shared) : Prop := ∃ H', Inv X pins σ H' s' ∧ Q b H'
def AP (X : Cx) (pins : List (Addr × Obj)) (σ : St) (Q : List V → Hp → Prop) (us : List Value) (s' : Shared) : Prop := ∃ vs H', Inv X pins σ H' s' ∧ Vals vs us ∧ Q vs H'
def SP (X : Cx) (pins : List (Addr × Obj)) (D : Ends) (f : Flow) (s' : Shared) : Prop :=
 match f with
 | .next => ∃ σ' H', Inv X pins σ' H' s' ∧ D.nx σ' H'
 | .brk => ∃ σ' H', Inv X pins σ' H' s' ∧ D.bk σ' H'
 | .cont => ∃ σ' H', Inv X pins σ' H' s' ∧ D.ct σ' H'
 | .ret u => ∃ v σ' H', Inv X pins σ' H' s' ∧ RelV v u ∧ D.rt v H'
def PE (X : Cx) (e : Expr) (t : TE) : Prop :=
 ∀ (pins : List (Addr × Obj)) (s : Shared) (σ : St) (H : Hp) (Q : VK), Inv X pins σ H s → t σ H Q → wpAny (model X.prog X.w) X.A (eval e X.env) (EP X pins σ Q) X.xe s
def PT (X : Cx) (e : Expr) (t : TT) : Prop :=
 ∀ (pins : List (Addr × Obj)) (s : Shared) (σ : St) (H : Hp) (Q : Bool → Hp → Prop), Inv X pins σ H s → t σ H Q → wpAny (model X.prog X.w) X.A (isTrue e X.env (eval e X.env)) (TP X pins σ Q) X.xe s
def PW (X : Cx) (e : Expr) (t : TT) : Prop :=
 ∀ (whole : Sem Value) (pins : List (Addr × Obj)) (s : Shared) (σ : St) (H : Hp) (Q : Bool → Hp → Prop), Inv X pins σ H s → t σ H Q → wpAny (model X.prog X.w) X.A (isTrue e X.env whole) (TP X pins σ Q) X.xe s
theorem PW.pt {X : Cx} {e : Expr} {t : TT} (h : PW X e t) : PT X e t := h _
def PA (X : Cx) (es : List Expr) (t : TA) : Prop :=
 ∀ (pos : Pos) (pins : List (Addr × Obj)) (s : Shared) (σ : St) (H : Hp) (Q : List V → Hp → Prop), Inv X pins σ H s → t σ H Q → wpAny (model X.prog X.w) X.A (spliced (backTo pos (starEach es X.env))) (AP X pins σ Q) X.xe s
def PS (X : Cx) (st : Stmt) (t : TS) : Prop :=
 ∀ (pins : List (Addr × Obj)) (s : Shared) (σ : St) (H : Hp) (D : Ends), Inv X pins σ H s → t D σ H → wpAny (model X.prog X.w) X.A (exec st X.env) (SP X pins D) X.xe s
def PSs (X : Cx) (st : List Stmt) (t : TS) : Prop :=
 ∀ (pins : List (Addr × Obj)) (s : Shared) (σ : St) (H : Hp) (D : Ends), Inv X pins σ H s → t D σ H → wpAny (model X.prog X.w) X.A (execs st X.env) (SP X pins D) X.xe s
theorem thn {α : Type} {t : Sem α} {Q Q' : α → Shared → Prop} {M : Model} {A : Around} {E : Value → Shared → Prop} {s : Shared} (h : wpAny M A t Q E s) (hQ : ∀ a s, Q a s → Q' a s) : wpAny M A t Q' E s := wpAny_mono h hQ fun _ _ x => x
end L2
namespace L2
open PySem PySem.Spec PyProof.Rows
section
variable {X : Cx}
def tVar (i : Nat) : TE := fun σ H Q => ∃ v, σ[i]? = some (some v) ∧ Q v H
def tC (v : V) : TE := fun _ H Q => Q v H
theorem pe_var {i : Nat} {x : Str} {pos : Pos} (hN : X.N[i]? = some x) (hv : Vis X.env.scope x) (hd : (x == ("__debug__" : Str)) = false := by decide) (hcd : (x == ("__classdict__" : Str)) = false := by decide) : PE X (.Name x pos) (tVar i) := by
 intro pins s σ H Q I h
 obtain ⟨v, e, h⟩ := h
 obtain ⟨m, hn, hl⟩ := I.loc
 obtain ⟨u, r, l⟩ := hl i x v hN e hv
 have fin : EP X pins σ Q u s := ⟨v, H, I, r, h⟩
 rcases l with ⟨hk, hm⟩ | ⟨hk, c, hc, hcell⟩
 ·exact wpAny_Name (wpAny_loadName_local I.ok.kind hk hn hm fin) hd
 ·rcases hk with hk | hk
  ·exact wpAny_Name (wpAny_loadName_cell I.ok.kind hk hc hcell fin) hd
  ·exact wpAny_Name (wpAny_loadName_free I.ok.kind hk hc hcell fin hcd) hd
theorem pe_int {i j pos} : PE X (.Constant (.int i) j pos) (tC (.int i)) := fun _ _ _ H _ I h => wpAny_Constant_int ⟨.int i, H, I.tok _, ⟨_, rfl⟩, h⟩
theorem pe_bl {b j pos} : PE X (.Constant (.bool b) j pos) (tC (.bl b)) := fun _ _ _ H _ I h => Constant_bool ⟨.bl b, H, I, rfl, h⟩
def Gl (X : Cx) (x : Str) : Prop := X.env.kindOf x = some .globalImplicit
theorem ld_glob {E : Value → Shared → Prop} {pins : List (Addr × Obj)} {s : Shared} {σ : St} {H : Hp} {x : Str} {u : Value} {pos : Pos} {Q : Value → Shared → Prop} (I : Inv X pins σ H s) (hg : Gl X x) (hm : X.mg x = some u) (h : Q u s)
  (hd : (x == ("__debug__" : Str)) = false := by decide) : wpAny (model X.prog X.w) X.A (eval (.Name x pos) X.env) Q E s :=
 Calls.Name_function_global I.ok.kind hg (Calls.loadGlobal_global (by rw [I.ok.glob]; exact I.mod.glob.keeps I.bk) hm h) hd
theorem ld_blt {E : Value → Shared → Prop} {pins : List (Addr × Obj)} {s : Shared} {σ : St} {H : Hp} {x : Str} {u : Value} {pos : Pos} {Q : Value → Shared → Prop} (I : Inv X pins σ H s) (hg : Gl X x) (hm : X.mg x = none) (hv : bootBuiltins x = some u) (h : Q u s)
  (hn : x ≠ "__name__" := by decide) (hd : (x == ("__debug__" : Str)) = false := by decide) : wpAny (model X.prog X.w) X.A (eval (.Name x pos) X.env) Q E s := by
 obtain ⟨mb, h1, h2⟩ := I.mod.blt
 exact Calls.Name_function_global I.ok.kind hg (Calls.loadGlobal_builtin (by rw [I.ok.glob]; exact I.mod.glob.keeps I.bk) hm (by rw [I.ok.blt]; exact h1.keeps I.bk) ((h2 x hn).trans hv) h) hd
theorem pe_glob {x : Str} {v : V} {u : Value} {pos : Pos} (hg : Gl X x) (hm : X.mg x = some u) (r : RelV v u) (hd : (x == ("__debug__" : Str)) = false := by decide) : PE X (.Name x pos) (tC v) :=
 fun _ _ _ H _ I h => ld_glob I hg hm ⟨v, H, I, r, h⟩ hd
variable {a b : Expr} {ta tb : TE} {pos : Pos}
def PC (X : Cx) (op : CmpOp) (a b : Expr) (t : TE) : Prop :=
 ∀ (pins : List (Addr × Obj)) (s : Shared) (σ : St) (H : Hp) (Q : VK), Inv X pins σ H s → t σ H Q →
  wpAny (model X.prog X.w) X.A (eval a X.env) (fun v s₁ => wpAny (model X.prog X.w) X.A (eval b X.env) (fun u s₂ => wpAny (model X.prog X.w) X.A (compareOp op v u) (EP X pins σ Q) X.xe s₂) X.xe s₁) X.xe s
def tB (t : TE) : TT := fun σ H Q => t σ H fun x H1 => ∃ c, x = .bl c ∧ Q c H1
theorem pt_cmp {op : CmpOp} {t : TE} (h : PC X op a b t) (h1 : behindInMarks op b = false := by first | exact nobehind _ (by decide) (by decide) | rfl) : PT X (.Compare a [op] [b] pos) (tB t) := by
 intro pins s σ H Q I hw
 refine wpAny_isTrue_Compare1 (thn (h pins s σ H _ I hw) fun v s1 h1 => thn h1 fun u s2 h2 => thn h2 fun c s3 ⟨x, H1, I1, r1, q1⟩ => ?_) h1
 obtain ⟨d, rfl, q⟩ := q1
 cases r1
 exact wpAny_truthy_bool ⟨H1, I1, q⟩
theorem pt_val {e : Expr} {t : TE} (h : PE X e t) (he : ∀ whole, isTrue e X.env whole = (do let v ← whole; standAt e.pos; holding [v] (truthy v)) := by intro _; rfl) : PT X e (tB t) := by
 intro pins s σ H Q I hw
 refine isTrue_plain (thn (h pins s σ H _ I hw) fun v s1 ⟨x, H1, I1, r1, q1⟩ => ?_) (he _)
 obtain ⟨d, rfl, q⟩ := q1
 cases r1
 exact wpAny_truthy_bool ⟨H1, I1, q⟩
variable {tA tB' : TT} {rest : List Expr}
def tAnd (t u : TT) : TT := fun σ H Q => t σ H fun c H1 => if c = true then u σ H1 Q else Q false H1
def tOr (t u : TT) : TT := fun σ H Q => t σ H fun c H1 => if c = true then Q true H1 else u σ H1 Q
def tNot (t : TT) : TT := fun σ H Q => t σ H fun c H1 => Q (!c) H1
theorem pw_and1 (ha : PT X a tA) : PW X (.BoolOp .And [a] pos) tA := by
 intro wh pins s σ H Q I h
 refine isTrue_and (thn (ha pins s σ H Q I h) fun c s1 e => ?_)
 cases c with
 | true => exact isTrue_and_nil e
 | false => exact e
theorem pw_or1 (ha : PT X a tA) : PW X (.BoolOp .Or [a] pos) tA := by
 intro wh pins s σ H Q I h
 refine isTrue_or (thn (ha pins s σ H Q I h) fun c s1 e => ?_)
 cases c with
 | false => exact isTrue_or_nil e
 | true => exact e
theorem pw_and (ha : PT X a tA) (hb : PW X (.BoolOp .And (b :: rest) pos) tB') : PW X (.BoolOp .And (a :: b :: rest) pos) (tAnd tA tB') := by
 intro wh pins s σ H Q I h
 refine isTrue_and (thn (ha pins s σ H _ I h) fun c s1 ⟨H1, I1, q1⟩ => ?_)
 cases c with
 | true => exact hb wh pins s1 σ H1 Q I1 q1
 | false => exact ⟨H1, I1, q1⟩
theorem pw_or (ha : PT X a tA) (hb : PW X (.BoolOp .Or (b :: rest) pos) tB') : PW X (.BoolOp .Or (a :: b :: rest) pos) (tOr tA tB') := by
 intro wh pins s σ H Q I h
 refine isTrue_or (thn (ha pins s σ H _ I h) fun c s1 ⟨H1, I1, q1⟩ => ?_)
 cases c with
 | true => exact ⟨H1, I1, q1⟩
 | false => exact hb wh pins s1 σ H1 Q I1 q1
theorem pt_not (ha : PT X a tA) : PT X (.UnaryOp .Not a pos) (tNot tA) := by
 intro pins s σ H Q I h
 exact isTrue_not (ha pins s σ H (fun c H1 => Q (!c) H1) I h)
def tAndV (ta tb : TE) : TE := fun σ H Q => ta σ H fun x H1 => ∃ c, x = .bl c ∧ if c = true then tb σ H1 Q else Q (.bl false) H1
def tOrV (ta tb : TE) : TE := fun σ H Q => ta σ H fun x H1 => ∃ c, x = .bl c ∧ if c = true then Q (.bl true) H1 else tb σ H1 Q
theorem pe_one {op} {t : TE} (h : PE X a t) : PE X (.BoolOp op [a] pos) t := fun pins s σ H Q I hw => BoolOp_one (h pins s σ H Q I hw)
theorem pe_and (ha : PE X a ta) (hb : PE X (.BoolOp .And (b :: rest) pos) tb) : PE X (.BoolOp .And (a :: b :: rest) pos) (tAndV ta tb) := by
 intro pins s σ H Q I h
 refine BoolOp_and (thn (ha pins s σ H _ I h) fun v s1 ⟨x, H1, I1, r1, q1⟩ => ?_)
 obtain ⟨c, rfl, q1⟩ := q1
 cases r1
 refine wpAny_truthy_bool ?_
 cases c with
 | true => exact hb pins s1 σ H1 Q I1 q1
 | false => exact ⟨.bl false, H1, I1, rfl, q1⟩
theorem pe_or (ha : PE X a ta) (hb : PE X (.BoolOp .Or (b :: rest) pos) tb) : PE X (.BoolOp .Or (a :: b :: rest) pos) (tOrV ta tb) := by
 intro pins s σ H Q I h
 refine BoolOp_or (thn (ha pins s σ H _ I h) fun v s1 ⟨x, H1, I1, r1, q1⟩ => ?_)
 obtain ⟨c, rfl, q1⟩ := q1
 cases r1
 refine wpAny_truthy_bool ?_
 cases c with
 | false => exact hb pins s1 σ H1 Q I1 q1
 | true => exact ⟨.bl true, H1, I1, rfl, q1⟩
def tIf (t : TT) (ta tb : TE) : TE := fun σ H Q => t σ H fun c H1 => if c = true then ta σ H1 Q else tb σ H1 Q
theorem pe_ifExp {c : Expr} (hc : PT X c tA) (ha : PE X a ta) (hb : PE X b tb) : PE X (.IfExp c a b pos) (tIf tA ta tb) := by
 intro pins s σ H Q I h
 refine wpAny_IfExp (thn (hc pins s σ H _ I h) fun d s1 ⟨H1, I1, q1⟩ => ?_)
 cases d with
 | true => exact ha pins s1 σ H1 Q I1 q1
 | false => exact hb pins s1 σ H1 Q I1 q1
end
end L2
namespace L2
open PySem PySem.Spec PyProof.Rows
def SqL (K : PySem.W.Frag) (H : Hp) (a : Addr) (xs : List V) : Prop :=
 Rd H a (.lst xs) ∨
  ∃ (o : Obj) (its : Array Value) (n : Nat), K.lookup a = some o ∧ o.cls = .type "list" ∧ o.dict = none ∧ o.data = .seq its n ∧ its.size ≤ sizeLine ∧ Vals xs its.toList
def SqT (K : PySem.W.Frag) (H : Hp) (a : Addr) (xs : List V) : Prop :=
 Rd H a (.tup xs) ∨
  ∃ (o : Obj) (its : Array Value) (n : Nat), K.lookup a = some o ∧ o.cls = .type "tuple" ∧ o.data = .seq its n ∧ its.size ≤ sizeLine ∧ Vals xs its.toList
def absV : Value → Option V
 | .none => some .non
 | .bool b => some (.bl b)
 | .int i _ => some (.int i)
 | .str x _ => some (.str x)
 | .bytes b _ => some (.byt b)
 | .float b _ => some (.flt b)
 | .ref a => some (.ref a)
 | .type n => some (.ty n)
 | _ => none
theorem RelV.abs {x : V} {u : Value} (r : RelV x u) : absV u = some x := by
 cases x with
 | non => cases r; rfl
 | bl _ => cases r; rfl
 | int _ => obtain ⟨t, rfl⟩ := r; rfl
 | str _ => obtain ⟨t, rfl⟩ := r; rfl
 | byt _ => obtain ⟨t, rfl⟩ := r; rfl
 | flt _ => obtain ⟨t, rfl⟩ := r; rfl
 | ref _ => cases r; rfl
 | ty _ => cases r; rfl
theorem RelV.inj {x y : V} {u : Value} (r : RelV x u) (q : RelV y u) : x = y := Option.some.inj (r.abs.symm.trans q.abs)
theorem Vals.inj : ∀ {xs ys : List V} {us : List Value}, Vals xs us → Vals ys us → xs = ys
 | _, _, _, .nil, .nil => rfl
 | _, _, _, .cons r t, .cons r' t' => by rw [r.inj r', Vals.inj t t']
section
variable {X : Cx} {pins : List (Addr × Obj)} {σ : St} {H : Hp} {s : Shared} {a : Addr} {xs ys : List V}
theorem SqL.of {K : PySem.W.Frag} (h : H a = some (.lst xs)) : SqL K H a xs := .inl (.inl h)
theorem SqT.of {K : PySem.W.Frag} (h : H a = some (.tup xs)) : SqT K H a xs := .inl (.inl h)
theorem Inv.list (I : Inv X pins σ H s) (h : SqL X.K H a xs) : ∃ its : List Value, Vals xs its ∧ PlainL s.heap a its.toArray ∧ xs.length ≤ sizeLine := by
 rcases h with h | ⟨o, its, n, hk, hc, hd, hs, hz, r⟩
 ·obtain ⟨z, its, n, r, e⟩ := h.ok I.hok
  exact ⟨its, r, ⟨_, n, e, rfl, rfl, rfl⟩, z⟩
 ·refine ⟨its.toList, r, ⟨o, n, I.kIn a o hk, hc, hd, by simpa using hs⟩, ?_⟩
  have e := r.length
  simp only [Array.length_toList] at e
  omega
theorem Inv.tuple (I : Inv X pins σ H s) (h : SqT X.K H a xs) : ∃ its : List Value, Vals xs its ∧ IsTup s.heap a its.toArray ∧ xs.length ≤ sizeLine := by
 rcases h with h | ⟨o, its, n, hk, hc, hs, hz, r⟩
 ·obtain ⟨z, its, r, p⟩ := h.ok I.hok
  exact ⟨its, r, p, z⟩
 ·refine ⟨its.toList, r, ⟨o, I.kIn a o hk, hc, n, by simpa using hs⟩, ?_⟩
  have e := r.length
  simp only [Array.length_toList] at e
  omega
theorem Inv.list_inj (I : Inv X pins σ H s) (h : SqL X.K H a xs) (h' : SqL X.K H a ys) : xs = ys := by
 obtain ⟨its, r, ⟨o, n, e, _, _, d⟩, _⟩ := I.list h
 obtain ⟨its', r', ⟨o', n', e', _, _, d'⟩, _⟩ := I.list h'
 rw [e] at e'; cases e'
 rw [d] at d'
 injection d' with d1 _
 have : its = its' := by simpa using congrArg Array.toList d1
 subst this
 exact r.inj r'
theorem Inv.tuple_inj (I : Inv X pins σ H s) (h : SqT X.K H a xs) (h' : SqT X.K H a ys) : xs = ys := by
 obtain ⟨its, r, ⟨o, e, _, n, d⟩, _⟩ := I.tuple h
 obtain ⟨its', r', ⟨o', e', _, n', d'⟩, _⟩ := I.tuple h'
 rw [e] at e'; cases e'
 rw [d] at d'
 injection d' with d1 _
 have : its = its' := by simpa using congrArg Array.toList d1
 subst this
 exact r.inj r'
end
abbrev Cx.wish (X : Cx) (E : Value → Shared → Prop) : Cx := { X with xe := E }
abbrev Cx.nox (X : Cx) : Cx := X.wish fun _ _ => False
theorem Cx.Ok.wish {X : Cx} (ok : X.Ok) (E : Value → Shared → Prop) : (X.wish E).Ok :=
 ⟨ok.mod, ok.kind, ok.glob, ok.blt, ok.above, ok.inj, ok.has, ok.cab, ok.hd, ok.frames, ok.stk, ok.exf, ok.bs, ok.bsz, ok.noex, ok.exfs, ok.funs, ok.frf⟩
theorem Cx.Ok.unwish {X : Cx} {E : Value → Shared → Prop} (ok : (X.wish E).Ok) : X.Ok :=
 ⟨ok.mod, ok.kind, ok.glob, ok.blt, ok.above, ok.inj, ok.has, ok.cab, ok.hd, ok.frames, ok.stk, ok.exf, ok.bs, ok.bsz, ok.noex, ok.exfs, ok.funs, ok.frf⟩
section
variable {X : Cx} {pins : List (Addr × Obj)} {σ : St} {H : Hp} {s : Shared} {E : Value → Shared → Prop}
theorem Inv.wish (I : Inv X pins σ H s) (E : Value → Shared → Prop) : Inv (X.wish E) pins σ H s := ⟨I.ok.wish E, I.os, I.bare, I.base, I.loc, I.cell, I.free, I.freeC, I.pin, I.hok, I.len⟩
theorem Inv.unwish (I : Inv (X.wish E) pins σ H s) : Inv X pins σ H s := ⟨I.ok.unwish, I.os, I.bare, I.base, I.loc, I.cell, I.free, I.freeC, I.pin, I.hok, I.len⟩
theorem SP.unwish {D : Ends} {f : Flow} {s' : Shared} (h : SP (X.wish E) pins D f s') : SP X pins D f s' := by
 cases f with
 | next => obtain ⟨σ', H', I, q⟩ := h; exact ⟨σ', H', I.unwish, q⟩
 | brk => obtain ⟨σ', H', I, q⟩ := h; exact ⟨σ', H', I.unwish, q⟩
 | cont => obtain ⟨σ', H', I, q⟩ := h; exact ⟨σ', H', I.unwish, q⟩
 | ret u => obtain ⟨v, σ', H', I, r, q⟩ := h; exact ⟨v, σ', H', I.unwish, r, q⟩
theorem PSs.nox {st : List Stmt} {t : TS} (h : PSs X.nox st t) : PSs X st t := fun pins s σ H D I hw =>
 wpAny_mono (h pins s σ H D (I.wish _) hw) (fun _ _ q => q.unwish) fun _ _ z => False.elim z
end
section
variable {X : Cx} {st : Stmt} {rest : List Stmt} {t u : TS} {e : Expr} {te : TE} {pos : Pos}
def tNext : TS := fun D σ H => D.nx σ H
def tSeq (t u : TS) : TS := fun D σ H => t { D with nx := u D } σ H
theorem pss_nil : PSs X [] tNext := fun _ _ σ H _ I h => wpAny_execs_nil ⟨σ, H, I, h⟩
theorem pss_cons (h1 : PS X st t) (h2 : PSs X rest u) : PSs X (st :: rest) (tSeq t u) := by
 intro pins s σ H D I h
 refine wpAny_execs_cons (thn (h1 pins s σ H { D with nx := u D } I h) fun f s1 q => ?_)
 cases f with
 | next =>
  obtain ⟨σ', H', I', q⟩ := q
  exact h2 pins s1 σ' H' D I' q
 | ret v => exact q
 | brk => exact q
 | cont => exact q
theorem pss_one (h1 : PS X st t) : PSs X [st] t := by
 intro pins s σ H D I h
 refine wpAny_execs_cons (thn (h1 pins s σ H D I h) fun f s1 q => ?_)
 cases f with
 | next => exact wpAny_execs_nil q
 | ret v => exact q
 | brk => exact q
 | cont => exact q
theorem Inv.quiet {pins : List (Addr × Obj)} {σ : St} {H : Hp} {s : Shared} (I : Inv X pins σ H s) : interactive X.env = false := by simp [interactive, I.ok.kind]
def tDrop (te : TE) : TS := fun D σ H => te σ H fun _ H1 => D.nx σ H1
theorem ps_expr (he : PE X e te) (hs : swapsWith e none pos.line X.env = pure false := by rfl) : PS X (.Expr e pos) (tDrop te) := by
 intro pins s σ H D I h
 exact wpAny_Expr_any (thn (he pins s σ H _ I h) fun v s1 ⟨x, H1, I1, r1, q1⟩ => ⟨σ, H1, I1, q1⟩) I.quiet hs
def tRet (te : TE) : TS := fun D σ H => te σ H D.rt
theorem ps_ret (he : PE X e te) : PS X (.Return (some e) pos) (tRet te) := by
 intro pins s σ H D I h
 exact wpAny_Return_some (thn (he pins s σ H _ I h) fun v s1 ⟨x, H1, I1, r1, q1⟩ => ⟨x, σ, H1, I1, r1, q1⟩)
def tIfS (c : TT) (t u : TS) : TS := fun D σ H => c σ H fun b H1 => if b = true then t D σ H1 else u D σ H1
theorem ps_if {c : Expr} {a b : List Stmt} {tc : TT} (hc : PT X c tc) (ha : PSs X a t) (hb : PSs X b u) : PS X (.If c a b pos) (tIfS tc t u) := by
 intro pins s σ H D I h
 refine wpAny_If (thn (hc pins s σ H _ I h) fun d s1 ⟨H1, I1, q1⟩ => ?_)
 cases d with
 | true => exact ha pins s1 σ H1 D I1 q1
 | false => exact hb pins s1 σ H1 D I1 q1
end
abbrev TG := V → St → Hp → (St → Hp → Prop) → Prop
abbrev TGs := List V → St → Hp → (St → Hp → Prop) → Prop
def PG (X : Cx) (target : Expr) (t : TG) : Prop :=
 ∀ (pins : List (Addr × Obj)) (s : Shared) (σ : St) (H : Hp) (v : V) (u : Value) (Q : St → Hp → Prop), Inv X pins σ H s → RelV v u → t v σ H Q →
  wpAny (model X.prog X.w) X.A (assign target X.env u) (fun _ s' => ∃ σ' H', Inv X pins σ' H' s' ∧ Q σ' H') X.xe s
def PGs (X : Cx) (ts : List Expr) (t : TGs) : Prop :=
 ∀ (pins : List (Addr × Obj)) (s : Shared) (σ : St) (H : Hp) (vs : List V) (us : List Value) (Q : St → Hp → Prop), Inv X pins σ H s → Vals vs us → t vs σ H Q →
  wpAny (model X.prog X.w) X.A (assignInOrder ((assignEach ts X.env).map (·.2)) us) (fun _ s' => ∃ σ' H', Inv X pins σ' H' s' ∧ Q σ' H') X.xe s
abbrev TSet := V → V → V → Hp → (Hp → Prop) → Prop
def PSet (X : Cx) (t : TSet) : Prop :=
 ∀ (pins : List (Addr × Obj)) (s : Shared) (σ : St) (H : Hp) (o i v : V) (ov iv u : Value) (Q : Hp → Prop), Inv X pins σ H s → RelV o ov → RelV i iv → RelV v u → t o i v H Q →
  wpAny (model X.prog X.w) X.A (setItem ov iv u) (fun _ s' => ∃ H', Inv X pins σ H' s' ∧ Q H') X.xe s
section
variable {X : Cx} {pos : Pos}
def gName (i : Nat) : TG := fun v σ H Q => Q (σ.set i (some v)) H
theorem pg_name {i : Nat} {x : Str} (hN : X.N.Nodup) (hi : X.N[i]? = some x) (hx : Loc X.env.scope x) (hf : X.fn x = true ∨ X.env.scope.names.lookup x = some .local := by first | exact .inl rfl | exact .inr rfl | assumption) : PG X (.Name x pos) (gName i) := by
 intro pins s σ H v u Q I r h
 exact wpAny_assign_Name (store_ok I hN hi hx r (fun s' I' => ⟨_, H, I', h⟩) hf)
def gNil : TGs := fun vs σ H Q => vs = [] ∧ Q σ H
def gCons (t : TG) (u : TGs) : TGs := fun vs σ H Q => ∃ v r, vs = v :: r ∧ t v σ H fun σ' H' => u r σ' H' Q
theorem pgs_nil : PGs X [] gNil := by
 intro pins s σ H vs us Q I r h
 obtain ⟨e, h⟩ := h
 subst e
 cases r
 exact assignInOrder_nil ⟨σ, H, I, h⟩
theorem pgs_cons {e : Expr} {es : List Expr} {t : TG} {u : TGs} (h1 : PG X e t) (h2 : PGs X es u)
  (hs : (assignEach (e :: es) X.env).map (·.2) = assign e X.env :: (assignEach es X.env).map (·.2) := by rfl) : PGs X (e :: es) (gCons t u) := by
 intro pins s σ H vs us Q I r h
 obtain ⟨v, vr, e1, h⟩ := h
 subst e1
 cases r with
 | cons r rr =>
  rw [hs]
  refine assignInOrder_cons (thn (h1 pins s σ H _ _ _ I r h) fun _ s1 ⟨σ1, H1, I1, q1⟩ => ?_)
  exact h2 pins s1 σ1 H1 _ _ Q I1 rr q1
def gTup (K : PySem.W.Frag) (n : Nat) (t : TGs) : TG := fun v σ H Q => ∃ a xs, v = .ref a ∧ SqT K H a xs ∧ xs.length = n ∧ t xs σ H Q
theorem pg_tup {es : List Expr} {k : Nat} {t : TGs} {n : Nat} (hc : X.calm = true) (h : PGs X es t)
  (hn : (assignEach es X.env).length = n := by rfl) (hst : (assignEach es X.env).findIdx? (·.1) = none := by rfl) : PG X (.Tuple es k pos) (gTup X.K n t) := by
 intro pins s σ H v u Q I r hw
 obtain ⟨a, xs, e1, hq, hl, hw⟩ := hw
 subst e1
 cases r
 obtain ⟨its, rv, ht, hz⟩ := I.tuple hq
 refine assign_Tuple_tuple (I.ok.hd hc) ht (by simp [hn, ← hl, rv.length]) hst fun h' hx => ?_
 have I1 : Inv X pins σ H { s with heap := h' } := I.kept (t' := s.toks) fun b o e => hx b o (Nat.ne_of_lt (Heap.lt_size e)) e
 exact h pins _ σ H xs _ Q I1 (by simpa using rv) hw
def gSub (to ti : TE) (t : TSet) : TG := fun v σ H Q => to σ H fun o H1 => ti σ H1 fun i H2 => t o i v H2 fun H3 => Q σ H3
theorem pg_sub {o i : Expr} {to ti : TE} {t : TSet} (ho : PE X o to) (hi : PE X i ti) (hs : PSet X t)
  (ha : ∀ v, assign (.Subscript o i pos) X.env v = (do
   let ov ← holding [v] (eval o X.env)
   let iv ← holding [v, ov] (eval i X.env)
   standAt pos
   holding [v, ov, iv] (setItem ov iv v)
   release [v, ov, iv] []) := by intro _; rfl) : PG X (.Subscript o i pos) (gSub to ti t) := by
 intro pins s σ H v u Q I r h
 rw [ha]
 refine wpAny_bind (wpAny_holding (thn (ho pins s σ H _ I h) fun ov s1 ⟨x, H1, I1, r1, q1⟩ => ?_))
 refine wpAny_bind (wpAny_holding (thn (hi pins s1 σ H1 _ I1 q1) fun iv s2 ⟨y, H2, I2, r2, q2⟩ => ?_))
 refine wpAny_bind (wpAny_standAt (wpAny_bind (wpAny_holding (thn (hs pins s2 σ H2 x y v ov iv u _ I2 r1 r2 r q2) fun _ s3 ⟨H3, I3, q3⟩ => ?_))))
 exact wpAny_release ⟨σ, H3, I3, q3⟩
def tAsg (te : TE) (g : TG) : TS := fun D σ H => te σ H fun x H1 => g x σ H1 D.nx
theorem ps_asg {tg e : Expr} {te : TE} {g : TG} (he : PE X e te) (hg : PG X tg g) (hs : swapsWithSole [tg] e pos.line X.env = pure false := by rfl) (hw : swappedStores [tg] e X.env = pure none := by rfl)
  (h1 : (assignEach [tg] X.env).map (·.2) = [assign tg X.env] := by rfl) : PS X (.Assign [tg] e pos) (tAsg te g) := by
 intro pins s σ H D I h
 refine wpAny_Assign_stores (thn (he pins s σ H _ I h) fun v s1 ⟨x, H1, I1, r1, q1⟩ => ?_) hs hw
 rw [h1]
 exact thn (hg pins s1 σ H1 x v _ I1 r1 q1) fun _ s2 q => q
theorem ps_set {i : Nat} {x : Str} {e : Expr} {te : TE} {pos' : Pos} (hN : X.N.Nodup) (hi : X.N[i]? = some x) (hx : Loc X.env.scope x) (he : PE X e te) (hs : swapsWith e (some (.Name x pos')) pos.line X.env = pure false := by rfl) (hf : X.fn x = true ∨ X.env.scope.names.lookup x = some .local := by first | exact .inl rfl | exact .inr rfl | assumption) :
  PS X (.Assign [.Name x pos'] e pos) (tAsg te (gName i)) := by
 intro pins s σ H D I h
 refine wpAny_Assign_Name (thn (he pins s σ H _ I h) fun v s1 ⟨y, H1, I1, r1, q1⟩ => ?_) hs
 exact store_ok I1 hN hi hx r1 (fun s2 I2 => ⟨_, H1, I2, q1⟩) hf
end
section
variable {X : Cx} {pos : Pos}
def tWhile (c : TT) (tb : TS) : TS := fun D σ H => ∃ W : Nat → St → Hp → Prop, (∃ m, W m σ H) ∧ ∀ m σ H, W m σ H →
 c σ H fun b H1 => if b = true then ∃ N : St → Hp → Prop, (∀ σ' H', N σ' H' → ∃ m', m' < m ∧ W m' σ' H') ∧ tb { D with nx := N, ct := N, bk := D.nx } σ H1 else D.nx σ H1
theorem ps_while {c : Expr} {body : List Stmt} {tc : TT} {tb : TS} (hp : PassesOwn (model X.prog X.w) X.A X.env X.xe) (hc : PT X c tc) (hb : PSs X body tb) : PS X (.While c body [] pos) (tWhile tc tb) := by
 intro pins s σ H D I h
 obtain ⟨W, ⟨m0, w0⟩, turn⟩ := h
 refine wpAny_While (codeAny_whileLoop (fun n s' => ∃ σ' H', Inv X pins σ' H' s' ∧ W n σ' H') ?_ m0 ⟨σ, H, I, w0⟩)
 rintro n s1 ⟨σ1, H1, I1, w1⟩
 refine wpAny_passesOwn hp (thn (hc pins s1 σ1 H1 _ I1 (turn n σ1 H1 w1)) fun b s2 ⟨H2, I2, q2⟩ => ?_)
 cases b with
 | true =>
  obtain ⟨N, hN, q2⟩ := q2
  rw [if_pos rfl]
  refine wpAny_passesOwn hp (thn (hb pins s2 σ1 H2 _ I2 q2) fun f s3 q3 => ?_)
  cases f with
  | next =>
   obtain ⟨σ3, H3, I3, n3⟩ := q3
   obtain ⟨m', hm, w3⟩ := hN σ3 H3 n3
   exact ⟨m', hm, σ3, H3, I3, w3⟩
  | cont =>
   obtain ⟨σ3, H3, I3, n3⟩ := q3
   obtain ⟨m', hm, w3⟩ := hN σ3 H3 n3
   exact ⟨m', hm, σ3, H3, I3, w3⟩
  | brk => exact q3
  | ret v => exact q3
 | false =>
  rw [if_neg Bool.false_ne_true]
  exact wpAny_execs_nil ⟨σ1, H2, I2, q2⟩
end
structure It where
 go : Nat → Hp → Prop
 yld : Nat → Hp → V → Hp → Prop
 stop : Nat → Hp → Prop
def FpOk (X : Cx) (pins : List (Addr × Obj)) (H : Hp) (b : Addr) : Prop :=
 H b = none ∧ b ≠ X.env.locals ∧ b ∉ X.fs ∧ (b ∈ X.ex ∨ X.s_0.heap.objs.size ≤ b) ∧ (∀ x c, X.env.cells.lookup x = some c → c ≠ b) ∧ ∀ p ∈ X.pn ++ pins, p.1 ≠ b
theorem Inv.fpOk {X : Cx} {pins : List (Addr × Obj)} {σ : St} {H H' : Hp} {s : Shared} {b : Addr} (I : Inv X pins σ H s) (hb : s.heap.objs.size ≤ b) (hn : H' b = none) : FpOk X pins H' b := by
 refine ⟨hn, Nat.ne_of_gt (Nat.lt_of_lt_of_le I.lt hb), I.nofs hb, .inr (Nat.le_trans I.sz hb), fun x c e z => ?_, fun p hp z => ?_⟩
 ·obtain ⟨v, q⟩ := I.cell x c e
  exact absurd (Nat.lt_of_lt_of_le q.lt (by rw [z]; exact hb)) (Nat.lt_irrefl _)
 ·exact absurd (Nat.lt_of_lt_of_le (Heap.lt_size (I.pin p hp).1) (by rw [z]; exact hb)) (Nat.lt_irrefl _)
structure Turn (P : Program) (w : World) (K : PySem.W.Frag) (tg : Expr) (J : It) (fp : List Addr) (it : Addr) (tn : Nat → Heap → Prop) : Prop where
 mem : it ∈ fp
 obj : ∀ i h, tn i h → ∀ b ∈ fp, ∃ o, h.get? b = some o ∧ ∀ v, o.data ≠ .cell v
 keep : ∀ i h h', tn i h → (∀ b ∈ fp, ∀ o, h.get? b = some o → h'.get? b = some o) → tn i h'
 item : ∀ (X : Cx), X.prog = P → X.w = w → X.K = K → X.calm = true → ∀ (i : Nat) (pins : List (Addr × Obj)) (s : Shared) (σ : St) (H : Hp) (E : Value → Shared → Prop), Inv X pins σ H s → (∀ b ∈ fp, FpOk X pins H b) → tn i s.heap → J.go i H →
  wpAny (model P w) X.A (pyNext (.ref it)) (fun r s1 => ∃ u, r = some u ∧
   wpAny (model P w) X.A (letOwnedTupleGo tg (.ref it) u) (fun _ s2 => ∃ x H', Inv X pins σ H' s2 ∧ RelV x u ∧ J.yld i H x H' ∧ tn (i + 1) s2.heap ∧ ∀ b ∈ fp, H' b = none) E s1) E s
 done : ∀ (X : Cx), X.prog = P → X.w = w → X.K = K → X.calm = true → ∀ (i : Nat) (pins : List (Addr × Obj)) (s : Shared) (σ : St) (H : Hp) (E : Value → Shared → Prop), Inv X pins σ H s → (∀ b ∈ fp, FpOk X pins H b) → tn i s.heap → J.stop i H →
  wpAny (model P w) X.A (pyNext (.ref it)) (fun r s1 => r = none ∧ Inv X pins σ H s1) E s
 self : ∀ (A : Around) (i : Nat) (s : Shared) (Q : Value → Shared → Prop) (E : Value → Shared → Prop), tn i s.heap → Q (.ref it) s → wpAny (model P w) A (pyIter (.ref it)) Q E s
abbrev TI := St → Hp → (It → Hp → Prop) → Prop
def PIE (X : Cx) (pins : List (Addr × Obj)) (σ : St) (tg : Expr) (R : It → Hp → Prop) (itv : Value) (s2 : Shared) : Prop :=
 ∃ (it : Addr) (fp : List Addr) (tn : Nat → Heap → Prop) (J : It) (H' : Hp), itv = .ref it ∧ Inv X pins σ H' s2 ∧ Turn X.prog X.w X.K tg J fp it tn ∧ tn 0 s2.heap ∧ (∀ b ∈ fp, FpOk X pins H' b) ∧ R J H'
def PI (X : Cx) (tg iter : Expr) (wi : TI) : Prop :=
 ∀ (pins : List (Addr × Obj)) (s : Shared) (σ : St) (H : Hp) (R : It → Hp → Prop), Inv X pins σ H s → wi σ H R →
  wpAny (model X.prog X.w) X.A (eval iter X.env) (fun v s1 => wpAny (model X.prog X.w) X.A (pyIter v) (PIE X pins σ tg R) X.xe s1) X.xe s
theorem go_of {M : Model} {A : Around} {E : Value → Shared → Prop} {s : Shared} {tg : Expr} {it : Addr} {u : Value} {o : Obj} {n : String} {vs : Array Value} {Q : Unit → Shared → Prop} (ho : s.heap.get? it = some o) (hc : o.cls = .type n) (hd : o.data = .fields vs)
    (hn : ["enumerate", "zip", "dict_itemiterator", "dict_reverseitemiterator", "odict_iterator", "itertools.zip_longest", "itertools.pairwise"].contains n = false) (hQ : Q () s) : wpAny M A (letOwnedTupleGo tg (.ref it) u) Q E s := by
  unfold letOwnedTupleGo
  cases tg <;> first
    | exact wpAny_pure hQ
    | (cases u <;> first
        | exact wpAny_pure hQ
        | (refine wpAny_bind (wpAny_load ho ?_)
           rw [hc, hd]
           show wpAny M A (if (["enumerate", "zip", "dict_itemiterator", "dict_reverseitemiterator", "odict_iterator", "itertools.zip_longest", "itertools.pairwise"].contains n && vs[0]? == some (rawInt _)) = true then _ else _) Q E s
           rw [if_neg (by intro h; rw [hn, Bool.false_and] at h; cases h)]
           exact wpAny_pure hQ))
def Itl (K : PySem.W.Frag) (a : Addr) : It :=
 ⟨fun i H => ∃ xs x, SqL K H a xs ∧ xs[i]? = some x, fun i H x H' => H' = H ∧ ∀ xs, SqL K H a xs → xs[i]? = some x, fun i H => ∃ xs, SqL K H a xs ∧ xs.length ≤ i⟩
def Itt (K : PySem.W.Frag) (a : Addr) : It :=
 ⟨fun i H => ∃ xs x, SqT K H a xs ∧ xs[i]? = some x, fun i H x H' => H' = H ∧ ∀ xs, SqT K H a xs → xs[i]? = some x, fun i H => ∃ xs, SqT K H a xs ∧ xs.length ≤ i⟩
def Itr (lo : Int) (n : Nat) : It := ⟨fun i _ => i < n, fun i H x H' => H' = H ∧ x = .int (lo + i), fun i _ => n ≤ i⟩
theorem turn_list {P : Program} {w : World} {K : PySem.W.Frag} {tg : Expr} (a it : Addr) : Turn P w K tg (Itl K a) [it] it (fun i h => h.IsListIter it a i) where
 mem := by simp
 obj := fun i h st b hb => by
  have e : b = it := by simpa using hb
  subst e
  obtain ⟨o, e, c, d⟩ := st
  exact ⟨o, e, fun v z => by rw [d] at z; cases z⟩
 keep := fun i h h' st k => st.at fun o e => k it (by simp) o e
 item := by
  intro X hP hw hK hc i pins s σ H E I hf st hg
  subst hP hw hK
  obtain ⟨xs, x, hq, hx⟩ := hg
  obtain ⟨its, rv, p, hz⟩ := I.list hq
  obtain ⟨u, hu, ru⟩ := rv.get hx
  obtain ⟨f0, f1, f2, f3, f4, f5⟩ := hf it (by simp)
  refine wpAny_pyNext_list_item st p.isList (x := u) (by simpa using hu) fun h' st' sb => ?_
  have I1 : Inv X pins σ H { s with heap := h' } := I.turned (t' := s.toks) (fun b o hb e => (sb.2 b hb).trans e) f0 f1 f3 f4 f5
  obtain ⟨o, e, c, d⟩ := id st'
  exact ⟨u, rfl, go_of (s := { s with heap := h' }) e c d (by decide) ⟨x, H, I1, ru, ⟨rfl, fun ys hy => by rw [I.list_inj hy hq]; exact hx⟩, st', fun b hb => (hf b hb).1⟩⟩
 done := by
  intro X hP hw hK hc i pins s σ H E I hf st hg
  subst hP hw hK
  obtain ⟨xs, hq, hx⟩ := hg
  obtain ⟨its, rv, p, hz⟩ := I.list hq
  obtain ⟨f0, f1, f2, f3, f4, f5⟩ := hf it (by simp)
  have hl := rv.length
  exact wpAny_pyNext_list_end (I.ok.hd hc) st p.isList (by simp; omega) fun h' eb => ⟨rfl, I.turned (t' := s.toks) (fun b o hb e => eb b o hb e) f0 f1 f3 f4 f5⟩
 self := fun _ _ _ _ _ st h => wpAny_pyIter_listiter st h
theorem turn_tuple {P : Program} {w : World} {K : PySem.W.Frag} {tg : Expr} (a it : Addr) : Turn P w K tg (Itt K a) [it] it (fun i h => h.IsTupleIter it a i) where
 mem := by simp
 obj := fun i h st b hb => by
  have e : b = it := by simpa using hb
  subst e
  obtain ⟨o, e, c, d⟩ := st
  exact ⟨o, e, fun v z => by rw [d] at z; cases z⟩
 keep := fun i h h' st k => st.at fun o e => k it (by simp) o e
 item := by
  intro X hP hw hK hc i pins s σ H E I hf st hg
  subst hP hw hK
  obtain ⟨xs, x, hq, hx⟩ := hg
  obtain ⟨its, rv, p, hz⟩ := I.tuple hq
  obtain ⟨u, hu, ru⟩ := rv.get hx
  obtain ⟨f0, f1, f2, f3, f4, f5⟩ := hf it (by simp)
  refine wpAny_pyNext_tuple_item st (show s.heap.IsTuple a its.toArray from p) (x := u) (by simpa using hu) fun h' st' sb => ?_
  have I1 : Inv X pins σ H { s with heap := h' } := I.turned (t' := s.toks) (fun b o hb e => (sb.2 b hb).trans e) f0 f1 f3 f4 f5
  obtain ⟨o, e, c, d⟩ := id st'
  exact ⟨u, rfl, go_of (s := { s with heap := h' }) e c d (by decide) ⟨x, H, I1, ru, ⟨rfl, fun ys hy => by rw [I.tuple_inj hy hq]; exact hx⟩, st', fun b hb => (hf b hb).1⟩⟩
 done := by
  intro X hP hw hK hc i pins s σ H E I hf st hg
  subst hP hw hK
  obtain ⟨xs, hq, hx⟩ := hg
  obtain ⟨its, rv, p, hz⟩ := I.tuple hq
  obtain ⟨f0, f1, f2, f3, f4, f5⟩ := hf it (by simp)
  have hl := rv.length
  exact wpAny_pyNext_tuple_end (I.ok.hd hc) st (show s.heap.IsTuple a its.toArray from p) (by simp; omega) fun h' eb => ⟨rfl, I.turned (t' := s.toks) (fun b o hb e => eb b o hb e) f0 f1 f3 f4 f5⟩
 self := fun _ _ _ _ _ st h => wpAny_pyIter_tupleiter st h
theorem turn_range {P : Program} {w : World} {K : PySem.W.Frag} {tg : Expr} (it : Addr) (lo : Int) (n : Nat) : Turn P w K tg (Itr lo n) [it] it (fun i h => IsRangeIter h it (lo + (i : Nat) * 1) ((n : Int) - (i : Nat)) 1) where
 mem := by simp
 obj := fun i h st b hb => by
  have e : b = it := by simpa using hb
  subst e
  exact ⟨_, st, fun v z => by
   have z' : Data.fields _ = Data.cell v := z
   cases z'⟩
 keep := fun i h h' st k => k it (by simp) _ st
 item := by
  intro X hP hw hK hc i pins s σ H E I hf st hg
  subst hP hw hK
  obtain ⟨f0, f1, f2, f3, f4, f5⟩ := hf it (by simp)
  have W := Walks.range (prog := X.prog) (w := X.w) (I.ok.hd hc) it lo 1 n
  refine W.item i s _ _ hg st fun v h' tk hv st' kk => ?_
  obtain ⟨t, rfl⟩ := hv
  have I1 : Inv X pins σ H { s with heap := h', toks := tk } := I.turned (fun b o hb e => kk b o (by simpa using hb) e) f0 f1 f3 f4 f5
  refine ⟨_, rfl, go_of (s := { s with heap := h', toks := tk }) (n := "range_iterator") st' rfl rfl (by decide) ⟨.int (lo + i), H, I1, ⟨t, ?_⟩, ⟨rfl, rfl⟩, st', fun b hb => (hf b hb).1⟩⟩
  rw [Int.mul_one]
 done := by
  intro X hP hw hK hc i pins s σ H E I hf st hg
  subst hP hw hK
  obtain ⟨f0, f1, f2, f3, f4, f5⟩ := hf it (by simp)
  exact wpAny_pyNext_range_end (I.ok.hd hc) st (by have : n ≤ i := hg; omega) fun h' eb => ⟨rfl, I.turned (t' := s.toks) (fun b o hb e => eb b o hb e) f0 f1 f3 f4 f5⟩
 self := fun _ _ _ _ _ st h => wpAny_pyIter_rangeiter st h
end L2
namespace L2
open PySem PySem.Spec PyProof.Rows
section
variable {X : Cx} {tg : Expr}
def iList (K : PySem.W.Frag) (tl : TE) : TI := fun σ H R => tl σ H fun x H1 => ∃ a, x = .ref a ∧ (∃ xs, SqL K H1 a xs) ∧ R (Itl K a) H1
def iTup (K : PySem.W.Frag) (tl : TE) : TI := fun σ H R => tl σ H fun x H1 => ∃ a, x = .ref a ∧ (∃ xs, SqT K H1 a xs) ∧ R (Itt K a) H1
theorem pi_list {l : Expr} {tl : TE} (hl : PE X l tl) : PI X tg l (iList X.K tl) := by
 intro pins s σ H R I h
 refine thn (hl pins s σ H _ I h) fun v s1 ⟨x, H1, I1, r1, q1⟩ => ?_
 obtain ⟨a, e, ⟨xs, hq⟩, q⟩ := q1
 subst e
 cases r1
 obtain ⟨its, rv, p, hz⟩ := I1.list hq
 refine wpAny_pyIter_list p.isList ?_
 refine ⟨s1.heap.objs.size, [s1.heap.objs.size], _, _, H1, rfl, I1.kept (t' := s1.toks) fun b o e => Heap.get?_push_of_some _ e, turn_list a _, ⟨_, Heap.get?_push_size _ rfl, rfl, rfl⟩, fun b hb => ?_, q⟩
 have e : b = s1.heap.objs.size := by simpa using hb
 subst e
 exact I1.fpOk (Nat.le_refl _) (I1.hok.fresh (Nat.le_refl _))
theorem pi_tup {l : Expr} {tl : TE} (hl : PE X l tl) : PI X tg l (iTup X.K tl) := by
 intro pins s σ H R I h
 refine thn (hl pins s σ H _ I h) fun v s1 ⟨x, H1, I1, r1, q1⟩ => ?_
 obtain ⟨a, e, ⟨xs, hq⟩, q⟩ := q1
 subst e
 cases r1
 obtain ⟨its, rv, p, hz⟩ := I1.tuple hq
 refine wpAny_pyIter_tuple (show s1.heap.IsTuple a its.toArray from p) ?_
 refine ⟨s1.heap.objs.size, [s1.heap.objs.size], _, _, H1, rfl, I1.kept (t' := s1.toks) fun b o e => Heap.get?_push_of_some _ e, turn_tuple a _, ⟨_, Heap.get?_push_size _ rfl, rfl, rfl⟩, fun b hb => ?_, q⟩
 have e : b = s1.heap.objs.size := by simpa using hb
 subst e
 exact I1.fpOk (Nat.le_refl _) (I1.hok.fresh (Nat.le_refl _))
theorem range_it {pins : List (Addr × Obj)} {σ : St} {H : Hp} {s : Shared} {R : It → Hp → Prop} {E : Value → Shared → Prop} {lo hi : Int} {t u v : Tok} {tk : Nat} (I : Inv X pins σ H s) (h1 : -(2 ^ 62) ≤ lo) (h2 : lo < 2 ^ 62) (h3 : -(2 ^ 62) ≤ hi) (h4 : hi < 2 ^ 62)
  (q : R (Itr lo (hi - lo).toNat) H) : wpAny (model X.prog X.w) X.A (pyIter (.ref s.heap.objs.size)) (PIE X pins σ tg R) E { s with heap := s.heap.push { cls := .type "range", data := .fields #[.int lo t, .int hi u, .int 1 v] }, toks := tk } := by
 refine wpAny_pyIter_range (IsRange.new ..) (small_one h1 h2 h3 h4) ?_
 have I1 : Inv X pins σ H { s with heap := s.heap.push { cls := .type "range", data := .fields #[.int lo t, .int hi u, .int 1 v] }, toks := tk } := I.kept fun b o e => Heap.get?_push_of_some _ e
 refine ⟨(s.heap.push { cls := .type "range", data := .fields #[.int lo t, .int hi u, .int 1 v] }).objs.size, [(s.heap.push { cls := .type "range", data := .fields #[.int lo t, .int hi u, .int 1 v] }).objs.size], _, _, H, rfl,
  I1.kept (t' := tk) fun b o e => Heap.get?_push_of_some _ e, turn_range _ lo (hi - lo).toNat, ?_, fun b hb => ?_, q⟩
 ·have e1 : lo + ((0 : Nat) : Int) * 1 = lo := by simp
  have e2 : (((hi - lo).toNat : Nat) : Int) - ((0 : Nat) : Int) = Builtin.Range.rangeSize lo hi 1 := by rw [rangeSize_one]; split <;> omega
  show IsRangeIter _ _ (lo + ((0 : Nat) : Int) * 1) ((((hi - lo).toNat : Nat) : Int) - ((0 : Nat) : Int)) 1
  rw [e1, e2]
  exact Heap.get?_push_size _ rfl
 ·have e : b = (s.heap.push { cls := .type "range", data := .fields #[.int lo t, .int hi u, .int 1 v] }).objs.size := by simpa using hb
  subst e
  exact I1.fpOk (Nat.le_refl _) (I1.hok.fresh (Nat.le_refl _))
def iRng1 (ta : TA) : TI := fun σ H R => ta σ H fun vs H1 => ∃ j : Int, vs = [.int j] ∧ -(2 ^ 62) ≤ j ∧ j < 2 ^ 62 ∧ R (Itr 0 j.toNat) H1
theorem pi_range1 {a : Expr} {ta : TA} {p pos : Pos} (hg : Gl X "range") (hm : X.mg "range" = none) (ha : PA X [a] ta) (hs : starEach [a] X.env = [(false, eval a X.env)] := by rfl) : PI X tg (.Call (.Name "range" p) [a] [] pos) (iRng1 ta) := by
 intro pins s σ H R I h
 refine Call_ (ld_blt I hg hm boot_range (PyProof.Rows.callWith_type1 (thn (ha pos pins s σ H _ I h) fun us s1 ⟨vs, H1, I1, r1, q1⟩ => ?_) hs rfl))
 obtain ⟨j, e, q1, q2, q⟩ := q1
 subst e
 cases r1 with
 | cons r rr =>
  cases rr
  obtain ⟨t, rfl⟩ := r
  exact call_range_1 (range_it I1 (by omega) (by omega) q1 q2 (by simpa using q))
def tFor (wi : TI) (g : TG) (tb : TS) : TS := fun D σ H => wi σ H fun J H1 => ∃ W : Nat → Nat → St → Hp → Prop, (∃ m, W 0 m σ H1) ∧ ∀ i m σ H, W i m σ H →
 (J.stop i H ∧ D.nx σ H) ∨ (J.go i H ∧ ∃ N : St → Hp → Prop, (∀ σ' H', N σ' H' → ∃ m', m' < m ∧ W (i + 1) m' σ' H') ∧ ∀ x H', J.yld i H x H' → g x σ H' fun σ2 H2 => tb { D with nx := N, ct := N, bk := D.nx } σ2 H2)
def pinsAt (fp : List Addr) (h : Heap) : List (Addr × Obj) := fp.filterMap fun b => (h.get? b).map fun o => (b, o)
theorem mem_pinsAt {fp : List Addr} {h : Heap} {b : Addr} {o : Obj} (hb : b ∈ fp) (e : h.get? b = some o) : (b, o) ∈ pinsAt fp h := List.mem_filterMap.mpr ⟨b, hb, by rw [e]; rfl⟩
theorem of_pinsAt {fp : List Addr} {h : Heap} {p : Addr × Obj} (hp : p ∈ pinsAt fp h) : p.1 ∈ fp ∧ h.get? p.1 = some p.2 := by
 obtain ⟨b, hb, e⟩ := List.mem_filterMap.mp hp
 cases q : h.get? b with
 | none => rw [q] at e; cases e
 | some o =>
  rw [q] at e
  have e' : (b, o) = p := Option.some.inj e
  subst e'
  exact ⟨hb, q⟩
theorem Inv.pinned {pins : List (Addr × Obj)} {σ : St} {H : Hp} {s : Shared} {fp : List Addr} (I : Inv X pins σ H s) (hf : ∀ b ∈ fp, FpOk X pins H b) (ho : ∀ b ∈ fp, ∃ o, s.heap.get? b = some o ∧ ∀ v, o.data ≠ .cell v) : Inv X (pins ++ pinsAt fp s.heap) σ H s :=
 I.pins_of fun p hp => (List.mem_append.mp hp).elim (fun z => I.pin p (List.mem_append_right _ z)) fun z => by
  obtain ⟨hb, e⟩ := of_pinsAt z
  obtain ⟨f0, f1, f2, _⟩ := hf p.1 hb
  obtain ⟨o, e', d⟩ := ho p.1 hb
  rw [e] at e'; cases e'
  exact ⟨e, f0, f1, f2, d⟩
theorem Inv.unpinned {pins pl : List (Addr × Obj)} {σ : St} {H : Hp} {s : Shared} (I : Inv X (pins ++ pl) σ H s) : Inv X pins σ H s := I.pins_of fun p hp => I.pin p (List.mem_append_right _ (List.mem_append_left _ hp))
theorem ps_for {iter : Expr} {body : List Stmt} {wi : TI} {g : TG} {tb : TS} {pos : Pos} (hp : PassesOwn (model X.prog X.w) X.A X.env X.xe) (hc : X.calm = true) (hi : PI X tg iter wi) (hg : PG X tg g) (hb : PSs X body tb)
  (hs : ∀ x, foldedSetIterable iter X.env x = pure x := by intro _; rfl) : PS X (.For tg iter body [] pos) (tFor wi g tb) := by
 intro pins s σ H D I h
 refine wpAny_For (thn (hi pins s σ H _ I h) fun v s1 h1 => thn h1 fun itv s2 h2 => ?_) hs
 obtain ⟨it, fp, tn, J, H2, e, I2, T, st2, f2, W, ⟨m0, w0⟩, turn⟩ := h2
 subst e
 -- what stays true of the iterator's objects through the loop
 have stat : ∀ {H' : Hp}, (∀ b ∈ fp, H' b = none) → ∀ b ∈ fp, FpOk X pins H' b := fun hn b hb => ⟨hn b hb, (f2 b hb).2⟩
 refine codeAny_forLoop_any (fun n s' => ∃ i σ' H', Inv X pins σ' H' s' ∧ tn i s'.heap ∧ (∀ b ∈ fp, H' b = none) ∧ W i n σ' H') ?_ m0 ⟨0, σ, H2, I2, st2, fun b hb => (f2 b hb).1, w0⟩
 rintro n s3 ⟨i, σ3, H3, I3, st3, fr3, w3⟩
 rcases turn i n σ3 H3 w3 with ⟨stop, qn⟩ | ⟨go, N, hN, step⟩
 ·refine wpAny_passesOwn hp (thn (T.done X rfl rfl rfl hc i pins s3 σ3 H3 X.xe I3 (stat fr3) st3 stop) fun r s4 ⟨hr, I4⟩ => ?_)
  subst hr
  exact wpAny_execs_nil ⟨σ3, H3, I4, qn⟩
 ·refine wpAny_passesOwn hp (thn (T.item X rfl rfl rfl hc i pins s3 σ3 H3 X.xe I3 (stat fr3) st3 go) fun r s4 ⟨u, hr, h4⟩ => ?_)
  subst hr
  refine wpAny_passesOwn hp (thn h4 fun _ s5 ⟨x, H5, I5, r5, y5, st5, fr5⟩ => ?_)
  have I5' := I5.pinned (stat fr5) (T.obj _ _ st5)
  refine wpAny_passesOwn hp (thn (hg _ s5 σ3 H5 x u _ I5' r5 (step x H5 y5)) fun _ s6 ⟨σ6, H6, I6, q6⟩ => ?_)
  refine wpAny_passesOwn hp (thn (hb _ s6 σ6 H6 _ I6 q6) fun f s7 q7 => ?_)
  have again : ∀ {σ7 : St} {H7 : Hp}, Inv X (pins ++ pinsAt fp s5.heap) σ7 H7 s7 → N σ7 H7 → ∃ m, m < n ∧ ∃ i σ' H', Inv X pins σ' H' s7 ∧ tn i s7.heap ∧ (∀ b ∈ fp, H' b = none) ∧ W i m σ' H' := fun {σ7 H7} I7 n7 => by
   obtain ⟨m', hm, w7⟩ := hN σ7 H7 n7
   refine ⟨m', hm, i + 1, σ7, H7, I7.unpinned, T.keep _ _ _ st5 fun b hb o e => (I7.pin (b, o) (List.mem_append_right _ (List.mem_append_right _ (mem_pinsAt hb e)))).1, fun b hb => ?_, w7⟩
   obtain ⟨o, e, d⟩ := T.obj _ _ st5 b hb
   exact (I7.pin (b, o) (List.mem_append_right _ (List.mem_append_right _ (mem_pinsAt hb e)))).2.1
  cases f with
  | next => obtain ⟨σ7, H7, I7, n7⟩ := q7; exact again I7 n7
  | cont => obtain ⟨σ7, H7, I7, n7⟩ := q7; exact again I7 n7
  | brk => obtain ⟨σ7, H7, I7, q7⟩ := q7; exact ⟨σ7, H7, I7.unpinned, q7⟩
  | ret v => obtain ⟨x7, σ7, H7, I7, r7, q7⟩ := q7; exact ⟨x7, σ7, H7, I7.unpinned, r7, q7⟩
end
theorem for_list {K : PySem.W.Frag} {a : Addr} {xs : List V} {g : TG} {tb : TS} {D : Ends} {σ : St} {H : Hp} (Pv : Nat → St → Hp → Prop) (h0 : Pv 0 σ H) (hl : ∀ i σ H, i ≤ xs.length → Pv i σ H → SqL K H a xs)
  (hs : ∀ i x σ H, xs[i]? = some x → Pv i σ H → g x σ H fun σ2 H2 => tb { D with nx := Pv (i + 1), ct := Pv (i + 1), bk := D.nx } σ2 H2) (hd : ∀ σ H, Pv xs.length σ H → D.nx σ H) :
  ∃ W : Nat → Nat → St → Hp → Prop, (∃ m, W 0 m σ H) ∧ ∀ i m σ H, W i m σ H →
   ((Itl K a).stop i H ∧ D.nx σ H) ∨ ((Itl K a).go i H ∧ ∃ N : St → Hp → Prop, (∀ σ' H', N σ' H' → ∃ m', m' < m ∧ W (i + 1) m' σ' H') ∧ ∀ x H', (Itl K a).yld i H x H' → g x σ H' fun σ2 H2 => tb { D with nx := N, ct := N, bk := D.nx } σ2 H2) := by
 refine ⟨fun i m σ H => m = xs.length - i ∧ i ≤ xs.length ∧ Pv i σ H, ⟨xs.length, by simp, Nat.zero_le _, h0⟩, ?_⟩
 rintro i m σ H ⟨rfl, hi, p⟩
 have q := hl i σ H hi p
 by_cases hlt : i < xs.length
 ·refine .inr ⟨⟨xs, xs[i], q, by simp [hlt]⟩, Pv (i + 1), fun σ' H' p' => ⟨xs.length - (i + 1), by omega, rfl, hlt, p'⟩, fun x H' y => ?_⟩
  obtain ⟨e, y⟩ := y
  subst e
  exact hs i x σ _ (y xs q) p
 ·have e : i = xs.length := by omega
  subst e
  exact .inl ⟨⟨xs, q, Nat.le_refl _⟩, hd σ H p⟩
end L2
namespace L2
open PySem PySem.Spec PyProof.Rows
abbrev R2 := V → V → Hp → VK → Prop
def OpR (X : Cx) (f : Value → Value → Sem Value) (r : R2) : Prop :=
 ∀ (pins : List (Addr × Obj)) (s : Shared) (σ : St) (H : Hp) (x y : V) (v u : Value) (Q : VK), Inv X pins σ H s → RelV x v → RelV y u → r x y H Q →
  wpAny (model X.prog X.w) X.A (f v u) (EP X pins σ Q) X.xe s
def UnR (X : Cx) (f : Value → Sem Value) (r : V → Hp → VK → Prop) : Prop :=
 ∀ (pins : List (Addr × Obj)) (s : Shared) (σ : St) (H : Hp) (x : V) (v : Value) (Q : VK), Inv X pins σ H s → RelV x v → r x H Q →
  wpAny (model X.prog X.w) X.A (f v) (EP X pins σ Q) X.xe s
def CallR (X : Cx) (f : Value) (r : List V → Hp → VK → Prop) : Prop :=
 ∀ (pins : List (Addr × Obj)) (s : Shared) (σ : St) (H : Hp) (xs : List V) (us : List Value) (Q : VK), Inv X pins σ H s → Vals xs us → r xs H Q →
  wpAny (model X.prog X.w) X.A (call f us) (EP X pins σ Q) X.xe s
def tOp (r : R2) (ta tb : TE) : TE := fun σ H Q => ta σ H fun x H1 => tb σ H1 fun y H2 => r x y H2 Q
def tUn (r : V → Hp → VK → Prop) (ta : TE) : TE := fun σ H Q => ta σ H fun x H1 => r x H1 Q
def rI (C : Int → Int → Prop) (g : Int → Int → V) : R2 := fun x y H Q => ∃ i j, x = .int i ∧ y = .int j ∧ C i j ∧ Q (g i j) H
def rI0 (g : Int → Int → V) : R2 := fun x y H Q => ∃ i j, x = .int i ∧ y = .int j ∧ Q (g i j) H
def rU (g : Int → V) : V → Hp → VK → Prop := fun x H Q => ∃ i, x = .int i ∧ Q (g i) H
section
variable {X : Cx} {a b c : Expr} {ta tb tc : TE} {pos : Pos}
theorem binT (ha : PE X a ta) (hb : PE X b tb) {pins : List (Addr × Obj)} {s : Shared} {σ : St} {H : Hp} {R : V → V → Hp → Prop} (I : Inv X pins σ H s)
  (h : ta σ H fun x H1 => tb σ H1 fun y H2 => R x y H2) {Q : Value → Shared → Prop} {f : Value → Value → Sem Value}
  (hf : ∀ v u s2 x y H2, Inv X pins σ H2 s2 → RelV x v → RelV y u → R x y H2 → wpAny (model X.prog X.w) X.A (f v u) Q X.xe s2) :
  wpAny (model X.prog X.w) X.A (eval a X.env) (fun v s₁ => wpAny (model X.prog X.w) X.A (eval b X.env) (fun u s₂ => wpAny (model X.prog X.w) X.A (f v u) Q X.xe s₂) X.xe s₁) X.xe s := by
 refine thn (ha pins s σ H _ I h) fun v s1 ⟨x, H1, I1, r1, q1⟩ => ?_
 refine thn (hb pins s1 σ H1 _ I1 q1) fun u s2 ⟨y, H2, I2, r2, q2⟩ => ?_
 exact hf v u s2 x y H2 I2 r1 r2 q2
theorem pe_op {op : Operator} {r : R2} (ho : OpR X (binaryOp op) r) (ha : PE X a ta) (hb : PE X b tb) : PE X (.BinOp a op b pos) (tOp r ta tb) := by
 intro pins s σ H Q I h
 exact wpAny_BinOp (binT ha hb I h fun v u s2 x y H2 I2 rx ry q => ho pins s2 σ H2 x y v u Q I2 rx ry q)
theorem pe_un {op : UnaryOp} {r : V → Hp → VK → Prop} (ho : UnR X (unaryOp op) r) (ha : PE X a ta) : PE X (.UnaryOp op a pos) (tUn r ta) := by
 intro pins s σ H Q I h
 exact UnaryOp_ (thn (ha pins s σ H _ I h) fun v s1 ⟨x, H1, I1, r1, q1⟩ => ho pins s1 σ H1 x v Q I1 r1 q1)
theorem opI {f : Value → Value → Sem Value} {C : Int → Int → Prop} {g : Int → Int → Int}
  (rule : ∀ (i j : Int) (t u : Tok) (s : Shared) (Q : Value → Shared → Prop) (E : Value → Shared → Prop), C i j → Q (.int (g i j) s.toks) { s with toks := s.toks + 1 } → wpAny (model X.prog X.w) X.A (f (.int i t) (.int j u)) Q E s) :
  OpR X f (rI C fun i j => .int (g i j)) := by
 intro pins s σ H x y v u Q I rx ry h
 obtain ⟨i, j, rfl, rfl, hc, q⟩ := h
 obtain ⟨t, rfl⟩ := rx
 obtain ⟨t', rfl⟩ := ry
 exact rule i j t t' s _ _ hc ⟨.int (g i j), H, I.tok _, ⟨_, rfl⟩, q⟩
theorem opI0 {f : Value → Value → Sem Value} {g : Int → Int → Int}
  (rule : ∀ (i j : Int) (t u : Tok) (s : Shared) (Q : Value → Shared → Prop) (E : Value → Shared → Prop), Q (.int (g i j) s.toks) { s with toks := s.toks + 1 } → wpAny (model X.prog X.w) X.A (f (.int i t) (.int j u)) Q E s) :
  OpR X f (rI0 fun i j => .int (g i j)) := by
 intro pins s σ H x y v u Q I rx ry h
 obtain ⟨i, j, rfl, rfl, q⟩ := h
 obtain ⟨t, rfl⟩ := rx
 obtain ⟨t', rfl⟩ := ry
 exact rule i j t t' s _ _ ⟨.int (g i j), H, I.tok _, ⟨_, rfl⟩, q⟩
theorem opB0 {f : Value → Value → Sem Value} {g : Int → Int → Bool}
  (rule : ∀ (i j : Int) (t u : Tok) (s : Shared) (Q : Value → Shared → Prop) (E : Value → Shared → Prop), Q (.bool (g i j)) s → wpAny (model X.prog X.w) X.A (f (.int i t) (.int j u)) Q E s) :
  OpR X f (rI0 fun i j => .bl (g i j)) := by
 intro pins s σ H x y v u Q I rx ry h
 obtain ⟨i, j, rfl, rfl, q⟩ := h
 obtain ⟨t, rfl⟩ := rx
 obtain ⟨t', rfl⟩ := ry
 exact rule i j t t' s _ _ ⟨.bl (g i j), H, I, rfl, q⟩
def CDiv (i j : Int) : Prop := 0 < j ∧ j < 1073741824
def CPow (i j : Int) : Prop := 0 ≤ j ∧ j ≤ 1000000 ∧ i.natAbs < 2 ^ 64
def CMul (i j : Int) : Prop := (-(2 ^ 64) < i ∧ i < 2 ^ 64) ∨ (-(2 ^ 64) < j ∧ j < 2 ^ 64)
theorem CMul.ok {i j : Int} (h : CMul i j) : IntMulOk i j := by
 rcases h with ⟨h1, h2⟩ | ⟨h1, h2⟩
 ·exact .of_left (intBits_le_64 h1 h2)
 ·exact .of_right (intBits_le_64 h1 h2)
theorem two_pow_nn (k : Nat) : (0 : Int) ≤ 2 ^ k := by
 rw [two_pow_cast]
 exact Int.natCast_nonneg _
theorem op_add : OpR X (binaryOp .Add) (rI0 fun i j => .int (i + j)) := opI0 fun _ _ _ _ _ _ _ q => add_int q
theorem op_sub : OpR X (binaryOp .Sub) (rI0 fun i j => .int (i - j)) := opI0 fun _ _ _ _ _ _ _ q => sub_int q
theorem op_mul : OpR X (binaryOp .Mult) (rI CMul fun i j => .int (i * j)) := opI fun _ _ _ _ _ _ _ hc q => mul_int q hc.ok
theorem op_fdiv : OpR X (binaryOp .FloorDiv) (rI CDiv fun i j => .int (i / j)) := opI fun i j _ _ _ _ _ hc q => by
 have h1 : (0 : Int) < j := hc.1
 have h2 : j < 1073741824 := hc.2
 exact floordiv_int (by omega) (by rw [Int.fdiv_eq_ediv_of_nonneg i (by omega)]; exact q) (.inl (PyProof.noPylong_small (by omega)))
theorem op_mod : OpR X (binaryOp .Mod) (rI (fun _ j => 0 < j) fun i j => .int (i % j)) := opI fun i j _ _ _ _ _ hc q => by
 have h1 : (0 : Int) < j := hc
 exact mod_int' (by omega) (by rw [Int.fmod_eq_emod_of_nonneg i (by omega)]; exact q)
theorem op_shl : OpR X (binaryOp .LShift) (rI CPow fun i j => .int (i * 2 ^ j.toNat)) := opI fun _ _ _ _ _ _ _ hc q => lshift_int_small hc.1 hc.2.1 hc.2.2 q
theorem op_shr : OpR X (binaryOp .RShift) (rI (fun _ j => 0 ≤ j) fun i j => .int (i / 2 ^ j.toNat)) := opI fun i j _ _ _ _ _ hc q =>
 rshift_int hc (by rw [Int.fdiv_eq_ediv_of_nonneg i (two_pow_nn _)]; exact q)
theorem op_and : OpR X (binaryOp .BitAnd) (rI0 fun i j => .int (Builtin.bitAnd i j)) := opI0 fun _ _ _ _ _ _ _ q => and_int q
theorem op_or : OpR X (binaryOp .BitOr) (rI0 fun i j => .int (Builtin.bitOr i j)) := opI0 fun _ _ _ _ _ _ _ q => or_int q
theorem unI {f : Value → Sem Value} {g : Int → Int}
  (rule : ∀ (i : Int) (t : Tok) (s : Shared) (Q : Value → Shared → Prop) (E : Value → Shared → Prop), Q (.int (g i) s.toks) { s with toks := s.toks + 1 } → wpAny (model X.prog X.w) X.A (f (.int i t)) Q E s) :
  UnR X f (rU fun i => .int (g i)) := by
 intro pins s σ H x v Q I rx h
 obtain ⟨i, rfl, q⟩ := h
 obtain ⟨t, rfl⟩ := rx
 exact rule i t s _ _ ⟨.int (g i), H, I.tok _, ⟨_, rfl⟩, q⟩
theorem un_neg : UnR X (unaryOp .USub) (rU fun i => .int (-i)) := unI fun _ _ _ _ _ q => neg_int q
end
def scal : V → V → Bool
 | .non, .non => true | .non, .int _ => true | .int _, .non => true | .non, .bl _ => true | .bl _, .non => true | .non, .str _ => true | .str _, .non => true
 | .int _, .int _ => true | .bl _, .bl _ => true | .str _, .str _ => true | .byt _, .byt _ => true
 | .int _, .str _ => true | .str _, .int _ => true | .bl _, .str _ => true | .str _, .bl _ => true
 | _, _ => false
def rEq : R2 := fun x y H Q => scal x y = true ∧ Q (.bl (decide (x = y))) H
def rNe : R2 := fun x y H Q => scal x y = true ∧ Q (.bl (!decide (x = y))) H
theorem dec_int {i j : Int} : decide (V.int i = V.int j) = (i == j) := by
 rw [Bool.eq_iff_iff]
 simp
theorem dec_bl {i j : Bool} : decide (V.bl i = V.bl j) = (i == j) := by
 rw [Bool.eq_iff_iff]
 simp
theorem dec_str {i j : Str} : decide (V.str i = V.str j) = (i == j) := by
 rw [Bool.eq_iff_iff]
 simp
theorem dec_byt {i j : Array UInt8} : decide (V.byt i = V.byt j) = (i.toList == j.toList) := by
 rw [Bool.eq_iff_iff]
 cases i
 cases j
 simp
section
variable {X : Cx} {a b c : Expr} {ta tb tc : TE} {pos : Pos}
theorem fin_bl {pins : List (Addr × Obj)} {σ : St} {H : Hp} {s : Shared} {Q : VK} {k k' : Bool} (I : Inv X pins σ H s) (q : Q (.bl k) H) (e : k = k') : EP X pins σ Q (.bool k') s := by
 subst e
 exact ⟨.bl k, H, I, rfl, q⟩
theorem op_eq : OpR X (compareOp .Eq) rEq := by
 intro pins s σ H x y v u Q I rx ry h
 obtain ⟨hs, q⟩ := h
 cases x with
 | non =>
  cases rx
  cases y with
  | non => cases ry; exact PySem.EqNone.eq_none_none (fin_bl I q (by simp))
  | bl j => cases ry; exact PySem.EqNone.eq_none_bool (fin_bl I q (by simp))
  | int j => obtain ⟨t', rfl⟩ := ry; exact PySem.EqNone.eq_none_int (fin_bl I q (by simp))
  | str j => obtain ⟨t', rfl⟩ := ry; exact PySem.EqNone.eq_none_str (fin_bl I q (by simp))
  | _ => exact absurd (show false = true from hs) Bool.false_ne_true
 | bl i =>
  cases rx
  cases y with
  | non => cases ry; exact PySem.EqNone.eq_bool_none (fin_bl I q (by simp))
  | bl j => cases ry; exact eq_bool (fin_bl I q dec_bl)
  | str j => obtain ⟨t', rfl⟩ := ry; exact PySem.EqMixed.eq_bool_str (fin_bl I q (by simp))
  | _ => exact absurd (show false = true from hs) Bool.false_ne_true
 | int i =>
  obtain ⟨t, rfl⟩ := rx
  cases y with
  | non => cases ry; exact PySem.EqNone.eq_int_none (fin_bl I q (by simp))
  | int j => obtain ⟨t', rfl⟩ := ry; exact eq_int (fin_bl I q dec_int)
  | str j => obtain ⟨t', rfl⟩ := ry; exact PySem.EqMixed.eq_int_str (fin_bl I q (by simp))
  | _ => exact absurd (show false = true from hs) Bool.false_ne_true
 | str i =>
  obtain ⟨t, rfl⟩ := rx
  cases y with
  | non => cases ry; exact PySem.EqNone.eq_str_none (fin_bl I q (by simp))
  | bl j => cases ry; exact PySem.EqMixed.eq_str_bool (fin_bl I q (by simp))
  | int j => obtain ⟨t', rfl⟩ := ry; exact PySem.EqMixed.eq_str_int (fin_bl I q (by simp))
  | str j => obtain ⟨t', rfl⟩ := ry; exact eq_str (fin_bl I q dec_str)
  | _ => exact absurd (show false = true from hs) Bool.false_ne_true
 | byt i =>
  obtain ⟨t, rfl⟩ := rx
  cases y with
  | byt j => obtain ⟨t', rfl⟩ := ry; exact PySem.W.eq_bytes (fin_bl I q dec_byt)
  | _ => exact absurd (show false = true from hs) Bool.false_ne_true
 | _ => cases y <;> exact absurd (show false = true from hs) Bool.false_ne_true
theorem op_ne : OpR X (compareOp .NotEq) rNe := by
 intro pins s σ H x y v u Q I rx ry h
 obtain ⟨hs, q⟩ := h
 cases x with
 | non =>
  cases rx
  cases y with
  | non => cases ry; exact PySem.EqNone.ne_none_none (fin_bl I q (by simp))
  | bl j => cases ry; exact PySem.EqNone.ne_none_bool (fin_bl I q (by simp))
  | int j => obtain ⟨t', rfl⟩ := ry; exact PySem.EqNone.ne_none_int (fin_bl I q (by simp))
  | str j => obtain ⟨t', rfl⟩ := ry; exact PySem.EqNone.ne_none_str (fin_bl I q (by simp))
  | _ => exact absurd (show false = true from hs) Bool.false_ne_true
 | bl i =>
  cases rx
  cases y with
  | non => cases ry; exact PySem.EqNone.ne_bool_none (fin_bl I q (by simp))
  | bl j => cases ry; exact ne_bool (fin_bl I q (congrArg not dec_bl))
  | str j => obtain ⟨t', rfl⟩ := ry; exact PySem.EqMixed.ne_bool_str (fin_bl I q (by simp))
  | _ => exact absurd (show false = true from hs) Bool.false_ne_true
 | int i =>
  obtain ⟨t, rfl⟩ := rx
  cases y with
  | non => cases ry; exact PySem.EqNone.ne_int_none (fin_bl I q (by simp))
  | int j => obtain ⟨t', rfl⟩ := ry; exact ne_int (fin_bl I q (congrArg not dec_int))
  | str j => obtain ⟨t', rfl⟩ := ry; exact PySem.EqMixed.ne_int_str (fin_bl I q (by simp))
  | _ => exact absurd (show false = true from hs) Bool.false_ne_true
 | str i =>
  obtain ⟨t, rfl⟩ := rx
  cases y with
  | non => cases ry; exact PySem.EqNone.ne_str_none (fin_bl I q (by simp))
  | bl j => cases ry; exact PySem.EqMixed.ne_str_bool (fin_bl I q (by simp))
  | int j => obtain ⟨t', rfl⟩ := ry; exact PySem.EqMixed.ne_str_int (fin_bl I q (by simp))
  | str j => obtain ⟨t', rfl⟩ := ry; exact ne_str (fin_bl I q (congrArg not dec_str))
  | _ => exact absurd (show false = true from hs) Bool.false_ne_true
 | byt i =>
  obtain ⟨t, rfl⟩ := rx
  cases y with
  | byt j => obtain ⟨t', rfl⟩ := ry; exact PySem.W.ne_bytes (fin_bl I q (congrArg not dec_byt))
  | _ => exact absurd (show false = true from hs) Bool.false_ne_true
 | _ => cases y <;> exact absurd (show false = true from hs) Bool.false_ne_true
theorem op_lt : OpR X (compareOp .Lt) (rI0 fun i j => .bl (decide (i < j))) := opB0 fun _ _ _ _ _ _ _ q => lt_int q
theorem op_le : OpR X (compareOp .LtE) (rI0 fun i j => .bl (decide (i ≤ j))) := opB0 fun _ _ _ _ _ _ _ q => le_int q
theorem op_gt : OpR X (compareOp .Gt) (rI0 fun i j => .bl (decide (j < i))) := opB0 fun _ _ _ _ _ _ _ q => gt_int q
theorem op_ge : OpR X (compareOp .GtE) (rI0 fun i j => .bl (decide (j ≤ i))) := opB0 fun _ _ _ _ _ _ _ q => ge_int q
theorem nomark (b : Expr) {op : CmpOp} (h : op ≠ .In := by decide) (h2 : op ≠ .NotIn := by decide) : behindInMarks op b = false := by
 have e1 : (op == CmpOp.In) = false := by cases op <;> first | rfl | exact absurd rfl h
 have e2 : (op == CmpOp.NotIn) = false := by cases op <;> first | rfl | exact absurd rfl h2
 cases b <;> simp [behindInMarks, e1, e2]
theorem pe_cmpR {op : CmpOp} {r : R2} (ho : OpR X (compareOp op) r) (ha : PE X a ta) (hb : PE X b tb) (hm : behindInMarks op b = false) : PE X (.Compare a [op] [b] pos) (tOp r ta tb) := by
 intro pins s σ H Q I h
 exact wpAny_Compare1 (binT ha hb I h fun v u s2 x y H2 I2 rx ry q => ho pins s2 σ H2 x y v u Q I2 rx ry q) hm
def tTest (t : TE) : TT := fun σ H Q => t σ H fun x H' => ∃ k, x = .bl k ∧ Q k H'
theorem pt_cmpR {op : CmpOp} {r : R2} (ho : OpR X (compareOp op) r) (ha : PE X a ta) (hb : PE X b tb) (hm : behindInMarks op b = false) : PT X (.Compare a [op] [b] pos) (tTest (tOp r ta tb)) := by
 intro pins s σ H Q I h
 refine wpAny_isTrue_Compare1 (thn (ha pins s σ H _ I h) fun v s1 ⟨x, H1, I1, r1, q1⟩ => thn (hb pins s1 σ H1 _ I1 q1) fun u s2 ⟨y, H2, I2, r2, q2⟩ =>
  thn (ho pins s2 σ H2 x y v u _ I2 r1 r2 q2) fun c s3 ⟨z, H3, I3, r3, k, e, q3⟩ => ?_) hm
 subst e
 cases r3
 exact wpAny_truthy_bool ⟨H3, I3, q3⟩
theorem line63 : (sizeLine : Nat) < 2 ^ 63 := by rw [sizeLine_eq]; decide
theorem vals1 {x : V} {us : List Value} (r : Vals [x] us) : ∃ u, us = [u] ∧ RelV x u := by
 cases r with
 | cons r1 r2 => cases r2; exact ⟨_, rfl, r1⟩
theorem vals2 {x y : V} {us : List Value} (r : Vals [x, y] us) : ∃ u w', us = [u, w'] ∧ RelV x u ∧ RelV y w' := by
 cases r with
 | cons r1 r2 =>
  cases r2 with
  | cons r3 r4 => cases r4; exact ⟨_, _, rfl, r1, r3⟩
end
end L2
namespace L2
open PySem PySem.Spec PyProof.Rows
structure ObjM (h : Heap) (x dx C : Addr) (mA : Str → Option Value) : Prop where
 obj : h.get? x = some (PySem.W.instObj C dx)
 ns : h.Ns1 dx mA
 ne : dx ≠ x
theorem lookIn_ns {h : Heap} {dx : Addr} {mA : Str → Option Value} (n : h.Ns1 dx mA) : ∃ od, h.get? dx = some od ∧ ∀ name, PySem.W.lookIn name od = some (mA name) := by
 obtain ⟨o, es, ep, ho, hd, hk, _, hm⟩ := n
 refine ⟨o, ho, fun name => ?_⟩
 have e := hm name
 unfold nsFind findBy at e
 rw [← Array.find?_toList] at e
 unfold PySem.W.lookIn
 rw [hd]
 dsimp only
 split
 ·rename_i y q
  rw [q] at e
  exact congrArg some e
 ·rename_i q
  rw [q] at e
  have a : es.toList.any (·.refKey) = false := by
   rw [List.any_eq_false]
   intro y hy
   obtain ⟨z, t, hkey⟩ := hk y (Array.mem_toList_iff.mp hy)
   simp [DictEntry.refKey, hkey]
  have a' : ¬ es.toList.any (·.refKey) = true := by rw [a]; exact Bool.false_ne_true
  rw [if_neg a']
  exact congrArg some e
theorem ObjM.look {h : Heap} {x dx C : Addr} {mA : Str → Option Value} (I : ObjM h x dx C mA) : ∃ od, PySem.W.InstAt h x (PySem.W.instObj C dx) C (some od) ∧ ∀ name, PySem.W.lookIn name od = some (mA name) :=
 let ⟨od, ho, hl⟩ := lookIn_ns I.ns
 ⟨od, ⟨I.obj, rfl, rfl, ho⟩, hl⟩
section
variable {prog : Program} {w : World} {A : Around} {E : Value → Shared → Prop} {s : Shared} {K : PySem.W.Frag} {x dx C f : Addr} {mA : Str → Option Value} {name : Str} {v : Value}
theorem get_map {expr : Bool} {Q : Value → Shared → Prop} (X : K.In s.heap) (I : ObjM s.heap x dx C mA) (hg : PySem.W.plainGet K C name = true) (hh : PySem.W.hasDictIn K C = true)
  (ha : PySem.W.findIn K (.ref C) name = some none) (hv : mA name = some v) (hv' : PySem.W.handedIn v = true) (h : Q v { s with toks := s.toks + 1 }) :
  wpAny (model prog w) A (getAttr (.ref x) name expr) Q E s := by
 obtain ⟨od, J, hl⟩ := I.look
 exact PySem.W.get_value X J (PySem.W.plainGet_of hg).1 (PySem.W.findObj_own hh ha rfl (by rw [hl, hv])) hv' h
theorem get_meth {pl : Sem Bool} {Q : Value × List Value → Shared → Prop} (X : K.In s.heap) (I : ObjM s.heap x dx C mA) (hg : PySem.W.plainGet K C name = true)
  (hf : PySem.W.findIn K (.ref C) name = some (some (.ref f))) (ht : PySem.W.isFn K (.ref f) = true) (hv : mA name = none) (h : Q (.ref f, [.ref x]) s) :
  wpAny (model prog w) A (getMethod (.ref x) name pl) Q E s := by
 obtain ⟨od, J, hl⟩ := I.look
 exact PySem.W.method_fn X J (PySem.W.plainGet_of hg).1 (PySem.W.plainGet_of hg).2 hf (beq_iff_eq.mp ht) (by show (PySem.W.lookIn name od).map (·.isSome) = some false; rw [hl, hv]; rfl) h
theorem set_map {ns : List Str} {Q : Unit → Shared → Prop} (X : K.In s.heap) (I : ObjM s.heap x dx C mA)
  (hs : PySem.W.findIn K (.ref C) "__setattr__" = some (some (.builtin "object.__setattr__"))) (hp : PySem.W.plainOver K C = true) (ht : PySem.W.takerIn K C name = some none) (hh : PySem.W.hasDictIn K C = true)
  (hw : PySem.Within mA ns) (hsz : ns.length ≤ sizeLine)
  (h : ∀ h', ObjM h' x dx C (fun y => if y = name then some v else mA y) → Heap.SameBut dx s.heap h' → Q () { s with heap := h', toks := s.toks + 2 }) :
  wpAny (model prog w) A (setAttr (.ref x) name v) Q E s := by
 obtain ⟨od, J, hl⟩ := I.look
 refine PySem.W.set_plain X J hs (PySem.W.osa_open (s := { s with toks := s.toks + 1 }) (r := none) X J hp ht fun b => ?_)
 obtain ⟨cd, hc, hd'⟩ := PySem.W.any_some hh
 have hx : s.heap.get? x = some ⟨.ref C, some dx, .plain, #[]⟩ := I.obj
 refine wpAny_bind (wpAny_pure (wpAny_bind (wpAny_bind (wpAny_loadPart hx (wpAny_bind (PySem.W.Looks.here (s := { s with toks := s.toks + 1 }) (PySem.W.looks_clsIn X hc) ?_))))))
 rw [hd']
 refine wpAny_pure (a := some dx) (wpAny_bind (wpAny_pure (wpAny_bind ?_)))
 refine wpAny_nsSet1 (s := { s with toks := s.toks + 1 }) I.ns fun h' hn2 hs2 => ?_
 obtain ⟨oD, esD, epD, hoD, hdD, hcD⟩ := hn2.count (PySem.Within.cons name v hw)
 refine wpAny_bind (wpAny_lookBehind hoD (by rw [hdD]; exact pastItsLine_dict (Nat.le_trans hcD (by rw [List.length_cons]; omega))) ?_)
 exact wpAny_pure (h _ ⟨(hs2.2 _ (Ne.symm I.ne)).trans I.obj, hn2, I.ne⟩ hs2)
theorem make_map {R : Result → Shared → Prop} {vs : List Value} {kw : List (Str × Value)} (X : K.In s.heap) (hm : PySem.W.makesIn K C = true)
  (hi : PySem.W.findIn K (.ref C) "__init__" = some (some (.ref f))) (hf : PySem.W.typeIn K (.ref f) = some (.type "function"))
  (h : codeAny (model prog w) (A.under (.builtin "type.__call__" ⟨.ref C :: vs, kw⟩)) (.call (.ref f) ⟨.ref (s.heap.objs.size + 1) :: vs, kw⟩) (PySem.W.InitBack (s.heap.objs.size + 1) R)
   { s with heap := (s.heap.push PySem.W.emptyDict).push (PySem.W.instObj C s.heap.objs.size) }) :
  codeAny (model prog w) A (.call (.ref C) ⟨vs, kw⟩) R s := by
 obtain ⟨hh, g, d, t, os⟩ := s
 exact PySem.W.make_core (PySem.W.makes_of X hm) (PySem.W.looks_findIn X hi) (fun self => PySem.W.bind_fn X self hf) (.inl rfl) h
end
def putF (f : Str) (v : V) : List (Str × V) → List (Str × V)
 | [] => [(f, v)]
 | (g, x) :: r => if g = f then (g, v) :: r else (g, x) :: putF f v r
theorem lookup_putF (f g : Str) (v : V) : ∀ fs : List (Str × V), (putF f v fs).lookup g = if g = f then some v else fs.lookup g
 | [] => by
  show List.lookup g [(f, v)] = _
  by_cases h : g = f
  ·have hb : (g == f) = true := beq_iff_eq.mpr h
   simp only [List.lookup, hb, if_pos h]
  ·have hb : (g == f) = false := beq_eq_false_iff_ne.mpr h
   simp only [List.lookup, hb, if_neg h]
 | (k, x) :: r => by
  have ih := lookup_putF f g v r
  rw [show putF f v ((k, x) :: r) = (if k = f then (k, v) :: r else (k, x) :: putF f v r) from rfl]
  by_cases hk : k = f
  ·rw [if_pos hk]
   by_cases h : g = k
   ·have hb : (g == k) = true := beq_iff_eq.mpr h
    simp only [List.lookup, hb, if_pos (h.trans hk)]
   ·have hb : (g == k) = false := beq_eq_false_iff_ne.mpr h
    simp only [List.lookup, hb, if_neg (fun e : g = f => h (e.trans hk.symm))]
  ·rw [if_neg hk]
   by_cases h : g = k
   ·have hb : (g == k) = true := beq_iff_eq.mpr h
    simp only [List.lookup, hb, if_neg (fun e : g = f => hk (h.symm.trans e))]
   ·have hb : (g == k) = false := beq_eq_false_iff_ne.mpr h
    simp only [List.lookup, hb]
    exact ih
theorem keys_putF (f : Str) (v : V) : ∀ fs : List (Str × V), f ∈ (putF f v fs).map (·.1) ∧ ∀ g, g ∈ fs.map (·.1) → g ∈ (putF f v fs).map (·.1)
 | [] => ⟨by simp [putF], fun g h => by simp at h⟩
 | (k, x) :: r => by
  obtain ⟨i1, i2⟩ := keys_putF f v r
  rw [show putF f v ((k, x) :: r) = (if k = f then (k, v) :: r else (k, x) :: putF f v r) from rfl]
  by_cases hk : k = f
  ·rw [if_pos hk]
   subst hk
   exact ⟨by simp, fun g h => by simpa using h⟩
  ·rw [if_neg hk]
   refine ⟨?_, fun g h => ?_⟩
   ·rw [List.map_cons]
    exact List.mem_cons_of_mem _ i1
   ·rw [List.map_cons] at h ⊢
    rcases List.mem_cons.mp h with e | e
    ·exact List.mem_cons.mpr (.inl e)
    ·exact List.mem_cons_of_mem _ (i2 g e)
theorem length_putF (f : Str) (v : V) : ∀ fs : List (Str × V), (putF f v fs).length ≤ fs.length + 1
 | [] => by simp [putF]
 | (k, x) :: r => by
  have ih := length_putF f v r
  rw [show putF f v ((k, x) :: r) = (if k = f then (k, v) :: r else (k, x) :: putF f v r) from rfl]
  by_cases hk : k = f
  ·rw [if_pos hk, List.length_cons, List.length_cons]; omega
  ·rw [if_neg hk, List.length_cons, List.length_cons]; omega
theorem RelO.some_of {v : V} {o : Option Value} (r : RelO (some v) o) : ∃ u, o = some u ∧ RelV v u := by
 cases o with
 | none => exact (show False from r).elim
 | some u => exact ⟨u, rfl, r⟩
theorem RelO.none_of {o : Option Value} (r : RelO none o) : o = none := by
 cases o with
 | none => rfl
 | some u => exact (show False from r).elim
theorem handed_of {v : V} {u : Value} (r : RelV v u) : PySem.W.handedIn u = true := by
 cases v with
 | non => cases (show u = Value.none from r); rfl
 | bl b => cases (show u = Value.bool b from r); rfl
 | int i => obtain ⟨t, e⟩ := (show ∃ t, u = Value.int i t from r); cases e; rfl
 | str x => obtain ⟨t, e⟩ := (show ∃ t, u = Value.str x t from r); cases e; rfl
 | byt b => obtain ⟨t, e⟩ := (show ∃ t, u = Value.bytes b t from r); cases e; rfl
 | flt b => obtain ⟨t, e⟩ := (show ∃ t, u = Value.float b t from r); cases e; rfl
 | ref a => cases (show u = Value.ref a from r); rfl
 | ty n => cases (show u = Value.type n from r); rfl
section
variable {P : Program} {w : World} {H H' : Hp} {h h' : Heap} {a C dx : Addr} {fs fs' : List (Str × V)}
theorem ins_get (hok : HOk P w H h) (e : H a = some (.ins C dx fs)) : ∃ mA, ObjM h a dx C mA ∧ (∀ f, RelO (fs.lookup f) (mA f)) ∧ PySem.Within mA (fs.map (·.1)) ∧ fs.length ≤ 1000 ∧ H dx = some (.own a) := by
 obtain ⟨d, z, ne, ob, mA, n, r, q⟩ := (show ObjOk P w H h a (.ins C dx fs) from hok a _ e)
 exact ⟨mA, ⟨ob, n, ne⟩, r, q, z, d⟩
end
structure Cls (K : PySem.W.Frag) (C : Addr) : Prop where
 pg : PySem.W.plainGet K C Str.empty = true
 hd : PySem.W.hasDictIn K C = true
 po : PySem.W.plainOver K C = true
 sa : PySem.W.findIn K (.ref C) "__setattr__" = some (some (.builtin "object.__setattr__"))
theorem Cls.get {K : PySem.W.Frag} {C : Addr} (c : Cls K C) (f : Str) : PySem.W.plainGet K C f = true := c.pg
def NoAttr (K : PySem.W.Frag) (C : Addr) (f : Str) : Prop := PySem.W.findIn K (.ref C) f = some none
theorem NoAttr.taker {K : PySem.W.Frag} {C : Addr} {f : Str} (n : NoAttr K C f) : PySem.W.takerIn K C f = some none := by
 unfold PySem.W.takerIn
 rw [show PySem.W.findIn K (.ref C) f = some none from n]
 rfl
structure Meth (K : PySem.W.Frag) (C : Addr) (m : Str) (f : Addr) : Prop where
 at_ : PySem.W.findIn K (.ref C) m = some (some (.ref f))
 fn : PySem.W.isFn K (.ref f) = true
 kp : PySem.W.keepIn K (.ref f) = true
section
variable {X : Cx} {pins : List (Addr × Obj)} {σ : St} {H : Hp} {s : Shared} {a C dx : Addr} {fs : List (Str × V)} {f : Str} {v : V} {A : Around} {E : Value → Shared → Prop}
theorem getattr_ok {b : Bool} {Q : Value → Shared → Prop} (I : Inv X pins σ H s) (e : H a = some (.ins C dx fs)) (c : Cls X.K C) (n : NoAttr X.K C f) (l : fs.lookup f = some v)
  (h : ∀ u s', Inv X pins σ H s' → RelV v u → Q u s') : wpAny (model X.prog X.w) A (getAttr (.ref a) f b) Q E s := by
 obtain ⟨mA, O, r, _, _, _⟩ := ins_get I.hok e
 obtain ⟨u, hu, ru⟩ := RelO.some_of (v := v) (o := mA f) (by rw [← l]; exact r f)
 exact get_map I.kIn O (c.get f) c.hd n hu (handed_of ru) (h u _ (I.tok _) ru)
theorem getmeth_ok {m : Str} {g : Addr} {pl : Sem Bool} {Q : Value × List Value → Shared → Prop} (I : Inv X pins σ H s) (e : H a = some (.ins C dx fs)) (c : Cls X.K C) (k : Meth X.K C m g) (l : fs.lookup m = none)
  (h : Q (.ref g, [.ref a]) s) : wpAny (model X.prog X.w) A (getMethod (.ref a) m pl) Q E s := by
 obtain ⟨mA, O, r, _, _, _⟩ := ins_get I.hok e
 have hn : mA m = none := RelO.none_of (by rw [← l]; exact r m)
 exact get_meth I.kIn O (c.get m) k.at_ k.fn hn h
theorem setattr_ok {y : V} {u : Value} {Q : Unit → Shared → Prop} (I : Inv X pins σ H s) (e : H a = some (.ins C dx fs)) (c : Cls X.K C) (n : NoAttr X.K C f) (hl : fs.length < 1000) (ry : RelV y u)
  (h : ∀ s', Inv X pins σ (upd H a (.ins C dx (putF f y fs))) s' → Q () s') : wpAny (model X.prog X.w) A (setAttr (.ref a) f u) Q E s := by
 obtain ⟨mA, O, r, wi, _, ho⟩ := ins_get I.hok e
 have hz : (fs.map (·.1)).length ≤ sizeLine := by rw [List.length_map, sizeLine_eq]; omega
 refine set_map I.kIn O c.sa c.po n.taker c.hd wi hz fun h' O' sb => h _ ?_
 have hd : ∃ o, h'.get? dx = some o := let ⟨o, _, _, e', _⟩ := O'.ns; ⟨o, e'⟩
 refine I.write (x := a) (e := dx) (by rw [e]; exact True.intro) (.inr ho) (fun b q hb z => (sb.2 b hb).trans z) hd ?_
 refine ⟨by rw [upd_ne O.ne]; exact ho, ?_, O.ne, O'.obj, _, O'.ns, fun g => ?_, fun g hg => ?_⟩
 ·have := length_putF f y fs; omega
 ·show RelO ((putF f y fs).lookup g) (if g = f then some u else mA g)
  rw [lookup_putF]
  by_cases q : g = f
  ·rw [if_pos q, if_pos q]; exact ry
  ·rw [if_neg q, if_neg q]; exact r g
 ·by_cases q : g = f
  ·rw [q]; exact (keys_putF f y fs).1
  ·refine (keys_putF f y fs).2 g (wi g fun z => hg ?_)
   show (if g = f then some u else mA g) = none
   rw [if_neg q]; exact z
theorem Inv.made (I : Inv X pins σ H s) : Inv X pins σ (upd (upd H s.heap.objs.size (.own (s.heap.objs.size + 1))) (s.heap.objs.size + 1) (.ins C s.heap.objs.size []))
  { s with heap := (s.heap.push PySem.W.emptyDict).push (PySem.W.instObj C s.heap.objs.size) } := by
 have e1 : (s.heap.push PySem.W.emptyDict).get? s.heap.objs.size = some PySem.W.emptyDict := Heap.get?_push_size s.heap rfl
 have e2 : ((s.heap.push PySem.W.emptyDict).push (PySem.W.instObj C s.heap.objs.size)).get? (s.heap.objs.size + 1) = some (PySem.W.instObj C s.heap.objs.size) := by
  have := Heap.get?_push_size (s.heap.push PySem.W.emptyDict) (o := PySem.W.instObj C s.heap.objs.size) rfl
  rwa [Heap.size_push] at this
 have e3 : (s.heap.push PySem.W.emptyDict).Ns s.heap.objs.size (fun _ => none) := ⟨PySem.W.emptyDict, #[], _, e1, rfl, (fun e he => absurd he (by simp)), fun _ => rfl⟩
 have I1 := I.laid (a := s.heap.objs.size) (o := .own (s.heap.objs.size + 1)) (h' := s.heap.push PySem.W.emptyDict) (t' := s.toks) (fun b u q => Heap.get?_push_of_some _ q) (Nat.le_refl _) ⟨_, e1⟩
 refine I1.laid (a := s.heap.objs.size + 1) (o := .ins C s.heap.objs.size []) (t' := s.toks) (fun b u q => Heap.get?_push_of_some _ q) (Nat.le_of_eq (Heap.size_push _ _)) ?_
 have ne : s.heap.objs.size ≠ s.heap.objs.size + 1 := Nat.ne_of_lt (Nat.lt_succ_self _)
 refine ⟨by rw [upd_ne ne, upd_same], Nat.zero_le _, ne, e2, fun _ => none, (Heap.Ns1.of_empty e3).at fun o q => Heap.get?_push_of_some _ q, fun _ => True.intro, fun y hy => absurd rfl hy⟩
theorem attr_of {prog : Program} {w : World} {env : Env} {e : Expr} {f : Str} {pos : Pos} {s : Shared} {Q : Value → Shared → Prop} (hb : attributeBase e f env (eval e env) = eval e env)
  (h : wpAny (model prog w) A (eval e env) (fun o s₁ => wpAny (model prog w) A (getAttr o f true) Q E s₁) E s) : wpAny (model prog w) A (eval (.Attribute e f pos) env) Q E s :=
 Attribute_any_ h (by rw [arm_eval_Attribute, hb])
end
def tFld (K : PySem.W.Frag) (ta : TE) (f : Str) : TE := fun σ H Q => ta σ H fun x H1 => ∃ a C dx fs v, x = .ref a ∧ H1 a = some (.ins C dx fs) ∧ Cls K C ∧ NoAttr K C f ∧ fs.lookup f = some v ∧ Q v H1
def sFld (K : PySem.W.Frag) (ta tv : TE) (f : Str) : TS := fun D σ H => tv σ H fun y H1 => ta σ H1 fun x H2 => ∃ a C dx fs, x = .ref a ∧ H2 a = some (.ins C dx fs) ∧ Cls K C ∧ NoAttr K C f ∧ fs.length < 1000 ∧
 D.nx σ (upd H2 a (.ins C dx (putF f y fs)))
section
variable {X : Cx} {o e value : Expr} {f : Str} {pos pos' tpos : Pos} {ta tv : TE}
theorem pe_fld (he : PE X e ta) (hb : attributeBase e f X.env (eval e X.env) = eval e X.env) : PE X (.Attribute e f pos) (tFld X.K ta f) := by
 intro pins s σ H Q I h
 refine attr_of hb (thn (he pins s σ H _ I h) fun u s1 ⟨x, H1, I1, rx, a, C, dx, fs, v, ex, ea, c, n, l, q⟩ => ?_)
 subst ex
 obtain rfl : u = Value.ref a := rx
 exact getattr_ok I1 ea c n l fun u' s2 I2 ru => ⟨v, H1, I2, ru, q⟩
theorem ps_fld (ha : PE X o ta) (hv : PE X value tv) (hs : swapsWith value (some (.Attribute o f pos')) pos.line X.env = pure false) : PS X (.Assign [.Attribute o f pos'] value pos) (sFld X.K ta tv f) := by
 intro pins s σ H D I h
 refine plainObj_wpAny_Assign_Attribute (thn (hv pins s σ H _ I h) fun u s1 ⟨y, H1, I1, ry, q⟩ => thn (ha pins s1 σ H1 _ I1 q) fun ov s2 ⟨x, H2, I2, rx, a, C, dx, fs, ex, ea, c, n, l, q2⟩ => ?_) hs
 subst ex
 obtain rfl : ov = Value.ref a := rx
 exact setattr_ok I2 ea c n l ry fun s3 I3 => ⟨σ, _, I3, q2⟩
end
section
variable {X : Cx} {pins : List (Addr × Obj)} {σ : St} {H : Hp} {s : Shared} {A : Around} {E : Value → Shared → Prop} {Q : Value → Shared → Prop} {c : Value} {b : Bool}
end
end L2
namespace L2
open PySem PySem.Spec PyProof.Rows
structure Room (k : Nat) (A : Around) : Prop where
 hd : A.handled = none
 dp : A.depth + 3 * k + 5 < recursionLimit
 un : A.units + 16 * k + 200 < cLine
theorem Room.mono {j k : Nat} {A : Around} (r : Room k A) (h : j ≤ k) : Room j A := ⟨r.hd, by have := r.dp; omega, by have := r.un; omega⟩
theorem Room.deeper {k : Nat} {A : Around} (r : Room (k + 1) A) (env : Env) : Room k (A.deeper env) :=
 ⟨r.hd, by have := r.dp; show A.depth + 1 + 3 * k + 5 < _; omega, by have := r.un; show A.units + 3 + 16 * k + 200 < _; omega⟩
theorem make_depth {A : Around} {C : Addr} {us : List Value} {kw : List (Str × Value)} : (A.under (.builtin "type.__call__" ⟨.ref C :: us, kw⟩)).depth = A.depth + 1 := by
 first | rfl | simp [Around.under, Code.weight, Code.isCreation, Code.isGuard, Code.isCaller, Code.frames, Code.isFrame, guardIds]
theorem make_units {A : Around} {C : Addr} {us : List Value} {kw : List (Str × Value)} : (A.under (.builtin "type.__call__" ⟨.ref C :: us, kw⟩)).units = A.units + 1 := by
 first | rfl | simp [Around.under, Code.cUnits, Code.frames, Code.isFrame]
theorem Room.make {k : Nat} {A : Around} (r : Room (k + 1) A) (C : Addr) (us : List Value) (kw : List (Str × Value)) : Room k (A.under (.builtin "type.__call__" ⟨.ref C :: us, kw⟩)) :=
 ⟨r.hd, by have := r.dp; rw [make_depth]; omega, by have := r.un; rw [make_units]; omega⟩
theorem Room.depth {k : Nat} {A : Around} (r : Room k A) : A.depth < recursionLimit := by have := r.dp; omega
theorem Room.units {k : Nat} {A : Around} (r : Room k A) : A.units + 64 < cLine := by have := r.un; omega
def tNil : TA := fun _ H Q => Q [] H
def tCons (ta : TE) (tr : TA) : TA := fun σ H Q => ta σ H fun x H1 => tr σ H1 fun xs H2 => Q (x :: xs) H2
section
variable {X : Cx} {e : Expr} {es : List Expr} {te : TE} {t : TA} {pos : Pos}
theorem pa_nil : PA X [] tNil := fun _ _ _ _ H Q I h => Calls.spliced_nil ⟨[], H, I, .nil, h⟩
theorem pa_cons (ha : PE X e te) (hr : PA X es t) (hs : starEach (e :: es) X.env = (false, eval e X.env) :: starEach es X.env := by rfl) : PA X (e :: es) (tCons te t) := by
 intro pos pins s σ H Q I h
 rw [hs]
 show wpAny _ _ (spliced ((false, eval e X.env) :: backTo pos (starEach es X.env))) _ _ s
 refine Calls.spliced_cons (thn (ha pins s σ H _ I h) fun u s1 ⟨x, H1, I1, r1, q1⟩ => ?_)
 exact thn (hr pos pins s1 σ H1 _ I1 q1) fun us s2 ⟨xs, H2, I2, r2, q2⟩ => ⟨x :: xs, H2, I2, .cons r1 r2, q2⟩
def tTup (t : TA) : TE := fun σ H Q => t σ H fun xs H1 => xs.length ≤ sizeLine ∧ ∀ p, H1 p = none → Q (.ref p) (upd H1 p (.tup xs))
def tLst (t : TA) : TE := fun σ H Q => t σ H fun xs H1 => xs.length ≤ sizeLine ∧ ∀ p, H1 p = none → Q (.ref p) (upd H1 p (.lst xs))
theorem pe_tup {x1} (h : PA X es t) : PE X (.Tuple es x1 pos) (tTup t) := by
 intro pins s σ H Q I hq
 refine wpAny_Tuple_spliced (thn (h pos pins s σ H _ I hq) fun us s1 ⟨xs, H1, I1, r, z, q⟩ => ⟨by rw [← r.length]; exact z, ?_⟩)
 have hf : H1 s1.heap.objs.size = none := I1.hok.fresh (Nat.le_refl _)
 refine ⟨.ref s1.heap.objs.size, upd H1 s1.heap.objs.size (.tup xs), I1.laid (t' := s1.toks) (fun b u e => Heap.get?_push_of_some _ e) (Nat.le_refl _) ?_, rfl, q _ hf⟩
 exact ⟨z, us, r, ⟨_, Heap.get?_push_size _ rfl, rfl, _, rfl⟩⟩
theorem pe_lst (h : PA X es t) : PE X (.List es pos) (tLst t) := by
 intro pins s σ H Q I hq
 refine wpAny_List_spliced (thn (h pos pins s σ H _ I hq) fun us s1 ⟨xs, H1, I1, r, z, q⟩ => ⟨by rw [← r.length]; exact z, ?_⟩)
 have hf : H1 s1.heap.objs.size = none := I1.hok.fresh (Nat.le_refl _)
 refine ⟨.ref s1.heap.objs.size, upd H1 s1.heap.objs.size (.lst xs), I1.laid (t' := s1.toks) (fun b u e => Heap.get?_push_of_some _ e) (Nat.le_refl _) ?_, rfl, q _ hf⟩
 exact ⟨z, us, 0, r, Heap.get?_push_size _ rfl⟩
end
abbrev Sp := List V → Hp → VK → XK → Prop
abbrev CXT := List Env → Hp → Shared → XK → Value → Shared → Prop
structure Env0 (P : Program) (w : World) (K : PySem.W.Frag) (mg : Str → Option Value) (base : Heap) (A : Around) (outer : List Env) (s : Shared) (H : Hp) : Prop where
 frames : A.frames = some outer
 mod : Mod K mg base
 bs : ∀ b o, base.get? b = some o → s.heap.get? b = some o ∧ H b = none
 bsz : base.objs.size ≤ s.heap.objs.size
 funs : s.heap.FunFrames base outer
 frf : ∀ b ∈ frs outer, H b = none
 hok : HOk P w H s.heap
 bare : AllBare s.gens
def CE (outer : List Env) (P : Program) (w : World) (H : Hp) (s : Shared) (Q : VK) (u : Value) (s' : Shared) : Prop :=
 ∃ v H', s'.os = s.os ∧ AllBare s'.gens ∧ Un (frs outer) [] H H' s.heap s'.heap ∧ HOk P w H' s'.heap ∧ RelV v u ∧ Q v H'
def CR (CX : CXT) (outer : List Env) (P : Program) (w : World) (H : Hp) (s : Shared) (Q : VK) (E : XK) (r : Result) (s' : Shared) : Prop :=
 match r with
 | .ok (.ret u) => CE outer P w H s Q u s'
 | .ok _ => False
 | .error e => CX outer H s E e s'
structure FnOk (P : Program) (w : World) (K : PySem.W.Frag) (mg : Str → Option Value) (base : Heap) (CX : CXT) (k : Nat) (f : Addr) (fd : FuncData) (ps : List Str) (sp : Sp) : Prop where
 len : ∀ vs H Q E, sp vs H Q E → vs.length = ps.length
 run : ∀ (A : Around) (outer : List Env) (s : Shared) (H : Hp) (args : Args) (us : List Value) (vs : List V) (Q : VK) (E : XK), Room k A → Env0 P w K mg base A outer s H → BindsTo s fd args (ps.zip us) → Vals vs us → sp vs H Q E →
  codeAny (model P w) A (.call (.ref f) args) (CR CX outer P w H s Q E) s
theorem Env0.make {P : Program} {w : World} {K : PySem.W.Frag} {mg : Str → Option Value} {base : Heap} {A : Around} {outer : List Env} {s : Shared} {H : Hp} (e : Env0 P w K mg base A outer s H) (C : Addr) (us : List Value) (kw : List (Str × Value)) :
  Env0 P w K mg base (A.under (.builtin "type.__call__" ⟨.ref C :: us, kw⟩)) outer s H := ⟨by first | exact e.frames | (simpa [Around.under, Code.envs, Code.isFrame, pushEnvs] using e.frames), e.mod, e.bs, e.bsz, e.funs, e.frf, e.hok, e.bare⟩
section
variable {X : Cx} {pins : List (Addr × Obj)} {σ : St} {H : Hp} {s s' : Shared}
theorem Inv.env0 (I : Inv X pins σ H s) : Env0 X.prog X.w X.K X.mg X.base X.A X.stack s H :=
 ⟨I.ok.frames, I.ok.mod, I.bs, Nat.le_trans I.ok.bsz I.sz, I.stack, I.stkFree, I.hok, I.bare⟩
theorem Inv.after {Q : VK} {u : Value} (I : Inv X pins σ H s) (h : CE X.stack X.prog X.w H s Q u s') : EP X pins σ Q u s' := by
 obtain ⟨v, H', os, bare, un, hok, r, q⟩ := h
 obtain ⟨hh, g, d, t, os'⟩ := s'
 obtain rfl : os' = s.os := os
 exact ⟨v, H', I.call (h' := hh) (g' := g) (d' := d) (t' := t) (ch := []) un hok bare (fun b z => absurd z (by simp)), r, q⟩
end
def tCall (sp : Sp) (dvs : List V) (E : XK) (t : TA) : TE := fun σ H Q => t σ H fun vs H1 => sp (vs ++ dvs) H1 Q E
def tMeth (C : Addr) (m : Str) (sp : Sp) (dvs : List V) (E : XK) (ta : TE) (t : TA) : TE := fun σ H Q => ta σ H fun x H1 => ∃ a dx fs, x = .ref a ∧ H1 a = some (.ins C dx fs) ∧ fs.lookup m = none ∧
 t σ H1 fun vs H2 => sp (x :: (vs ++ dvs)) H2 Q E
def tMake (C : Addr) (sp : Sp) (dvs : List V) (E : XK) (t : TA) : TE := fun σ H Q => t σ H fun vs H1 => ∀ x dx, H1 x = none → H1 dx = none → dx ≠ x →
 sp (.ref x :: (vs ++ dvs)) (upd (upd H1 dx (.own x)) x (.ins C dx [])) (fun v H2 => v = .non ∧ Q (.ref x) H2) E
def Binds (K : PySem.W.Frag) (fd : FuncData) (ps : List Str) (ds : List Value) : Prop :=
 ∀ (s : Shared) (us : List Value), K.In s.heap → (us ++ ds).length = ps.length → BindsTo s fd ⟨us, []⟩ (ps.zip (us ++ ds))
theorem Binds.all {K : PySem.W.Frag} {fd : FuncData} {ps : List Str} (h : ∀ us : List Value, us.length = ps.length → bindArgs fd ⟨us, []⟩ = pure (ps.zip us)) : Binds K fd ps [] := fun s us _ hl => by
 rw [List.append_nil] at hl ⊢
 exact .of_eq (h us hl)
def Passes (CX : CXT) (X : Cx) (E : XK) : Prop := ∀ (pins : List (Addr × Obj)) (σ : St) (H : Hp) (s : Shared) (e : Value) (s' : Shared), Inv X pins σ H s → CX X.stack H s E e s' → X.xe e s'
section
variable {X : Cx} {CX : CXT} {k : Nat} {f C : Addr} {fd : FuncData} {ps : List Str} {sp : Sp} {dvs : List V} {ds : List Value} {E : XK} {x m : Str} {p pos apos : Pos} {e o : Expr} {es : List Expr} {ta : TE} {t : TA}
theorem run_fn {pins : List (Addr × Obj)} {σ : St} {H : Hp} {s : Shared} {Q : VK} {us : List Value} {vs : List V} (F : FnOk X.prog X.w X.K X.mg X.base CX k f fd ps sp) (hr : Room k X.A) (hb : Binds X.K fd ps ds) (hd : Vals dvs ds) (hx : Passes CX X E)
  (I : Inv X pins σ H s) (r : Vals vs us) (h : sp (vs ++ dvs) H Q E) : wpAny (model X.prog X.w) X.A (call (.ref f) us) (EP X pins σ Q) X.xe s := by
 have r2 : Vals (vs ++ dvs) (us ++ ds) := r.append hd
 have hl : (us ++ ds).length = ps.length := by rw [← r2.length]; exact F.len _ _ _ _ h
 refine wpAny_call (codeAny_mono (F.run X.A X.stack s H ⟨us, []⟩ (us ++ ds) (vs ++ dvs) Q E hr I.env0 (hb s us I.kIn hl) r2 h) fun r s' hq => ?_)
 cases r with
 | error e => exact hx pins σ H s e s' I hq
 | ok fl =>
  cases fl with
  | ret u => exact I.after hq
  | next => exact False.elim hq
  | brk => exact False.elim hq
  | cont => exact False.elim hq
theorem pe_call (F : FnOk X.prog X.w X.K X.mg X.base CX k f fd ps sp) (hr : Room k X.A) (hg : Gl X x) (hm : X.mg x = some (.ref f)) (hk : PySem.W.keepIn X.K (.ref f) = true) (hb : Binds X.K fd ps ds) (hd : Vals dvs ds) (hx : Passes CX X E)
  (ha : PA X (e :: es) t) (hdb : (x == ("__debug__" : Str)) = false := by decide) (he : starEach (e :: es) X.env = (false, eval e X.env) :: starEach es X.env := by rfl) (hpl : (backTo pos (starEach es X.env)).any (·.1) = false := by rfl) :
  PE X (.Call (.Name x p) (e :: es) [] pos) (tCall sp dvs E t) := by
 intro pins s σ H Q I h
 refine wpAny_Call_Name_kw (ld_glob I hg hm ?_ hdb)
 refine PySem.W.callWith_K (h₀ := X.base) I.ok.mod.kin hk (thn (ha pos pins s σ H _ I h) fun us s1 ⟨vs, H1, I1, r, q⟩ => ⟨I1.kIn, ?_⟩) he hpl
 exact run_fn F hr hb hd hx I1 r q
theorem pe_meth {pl : Sem Bool} (he : PE X o ta) (c : Cls X.K C) (hm : Meth X.K C m f) (F : FnOk X.prog X.w X.K X.mg X.base CX k f fd ps sp) (hr : Room k X.A) (hb : Binds X.K fd ps ds) (hd : Vals dvs ds) (hx : Passes CX X E) (ha : PA X (e :: es) t)
  (hst : starEach (e :: es) X.env = (false, eval e X.env) :: starEach es X.env := by rfl) (hpl : (backTo pos (starEach es X.env)).any (·.1) = false := by rfl)
  (ht : eval (.Call (.Attribute o m apos) (e :: es) [] pos) X.env = (do
   let ov ← eval o X.env
   standAt apos.atName
   let (f, first) ← holding [ov] (getMethod ov m pl)
   callWith pos f first (backTo pos (starEach (e :: es) X.env)) (backToKw pos (keywordEach [] X.env))) := by rfl) :
  PE X (.Call (.Attribute o m apos) (e :: es) [] pos) (tMeth C m sp dvs E ta t) := by
 intro pins s σ H Q I h
 refine PySem.W.methodCall_KW (pl := pl) (thn (he pins s σ H _ I h) fun u s1 ⟨x, H1, I1, rx, a, dx, fs, ex, ea, l, q⟩ => ?_) ht
 subst ex
 obtain rfl : u = Value.ref a := rx
 refine getmeth_ok I1 ea c hm l ?_
 refine PySem.W.callWith_K (first := [.ref a]) (h₀ := X.base) I.ok.mod.kin hm.kp (thn (ha pos pins s1 σ H1 _ I1 q) fun us s2 ⟨vs, H2, I2, r, q2⟩ => ⟨I2.kIn, ?_⟩) hst hpl
 exact run_fn (us := .ref a :: us) (vs := .ref a :: vs) F hr hb hd hx I2 (.cons rfl r) q2
theorem pe_meth0 {pl : Sem Bool} (he : PE X o ta) (c : Cls X.K C) (hm : Meth X.K C m f) (F : FnOk X.prog X.w X.K X.mg X.base CX k f fd ps sp) (hr : Room k X.A) (hb : Binds X.K fd ps ds) (hd : Vals dvs ds) (hx : Passes CX X E)
  (ht : eval (.Call (.Attribute o m apos) [] [] pos) X.env = (do
   let ov ← eval o X.env
   standAt apos.atName
   let (f, first) ← holding [ov] (getMethod ov m pl)
   callWith pos f first (backTo pos (starEach [] X.env)) (backToKw pos (keywordEach [] X.env))) := by rfl) :
  PE X (.Call (.Attribute o m apos) [] [] pos) (tMeth C m sp dvs E ta tNil) := by
 intro pins s σ H Q I h
 refine PySem.W.methodCall_KW (pl := pl) (thn (he pins s σ H _ I h) fun u s1 ⟨x, H1, I1, rx, a, dx, fs, ex, ea, l, q⟩ => ?_) ht
 subst ex
 obtain rfl : u = Value.ref a := rx
 refine getmeth_ok I1 ea c hm l ?_
 exact PySem.W.callWith_K0 (first := [.ref a]) I1.kIn hm.kp (run_fn (us := [.ref a]) (vs := [.ref a]) F hr hb hd hx I1 (.cons rfl .nil) q)
structure Mk (K : PySem.W.Frag) (C f : Addr) : Prop where
 makes : PySem.W.makesIn K C = true
 init : PySem.W.findIn K (.ref C) "__init__" = some (some (.ref f))
 fn : PySem.W.isFn K (.ref f) = true
 kp : PySem.W.keepIn K (.ref C) = true
theorem run_make {pins : List (Addr × Obj)} {σ : St} {H : Hp} {s : Shared} {Q : VK} {us : List Value} {vs : List V} (M : Mk X.K C f) (F : FnOk X.prog X.w X.K X.mg X.base CX k f fd ps sp) (hr : Room (k + 1) X.A) (hb : Binds X.K fd ps ds) (hd : Vals dvs ds)
  (hx : Passes CX X E) (I : Inv X pins σ H s) (r : Vals vs us)
  (h : ∀ x dx, H x = none → H dx = none → dx ≠ x → sp (.ref x :: (vs ++ dvs)) (upd (upd H dx (.own x)) x (.ins C dx [])) (fun v H2 => v = .non ∧ Q (.ref x) H2) E) :
  wpAny (model X.prog X.w) X.A (call (.ref C) us) (EP X pins σ Q) X.xe s := by
 have hq := h (s.heap.objs.size + 1) s.heap.objs.size (I.hok.fresh (Nat.le_succ _)) (I.hok.fresh (Nat.le_refl _)) (Nat.ne_of_lt (Nat.lt_succ_self _))
 have I2 := Inv.made (C := C) I
 have r2 : Vals (V.ref (s.heap.objs.size + 1) :: (vs ++ dvs)) (Value.ref (s.heap.objs.size + 1) :: (us ++ ds)) := .cons rfl (r.append hd)
 have hl : (Value.ref (s.heap.objs.size + 1) :: us ++ ds).length = ps.length := by
  have e := r2.length
  rw [F.len _ _ _ _ hq] at e
  exact e.symm
 refine wpAny_call (make_map (f := f) I.kIn M.makes M.init (beq_iff_eq.mp M.fn) (codeAny_mono (F.run _ X.stack _ _ ⟨Value.ref (s.heap.objs.size + 1) :: us, []⟩ (Value.ref (s.heap.objs.size + 1) :: (us ++ ds)) _ _ E (hr.make C us [])
  (I2.env0.make C us []) (hb _ (Value.ref (s.heap.objs.size + 1) :: us) I2.kIn hl) r2 hq) fun r s' hq' => ?_))
 cases r with
 | error e => exact hx pins σ _ _ e s' I2 hq'
 | ok fl =>
  cases fl with
  | ret u =>
   obtain ⟨v, H', I3, rv, ev, q3⟩ := I2.after hq'
   subst ev
   exact ⟨rv, ⟨V.ref (s.heap.objs.size + 1), H', I3, rfl, q3⟩⟩
  | next => exact False.elim hq'
  | brk => exact False.elim hq'
  | cont => exact False.elim hq'
theorem pe_make (M : Mk X.K C f) (F : FnOk X.prog X.w X.K X.mg X.base CX k f fd ps sp) (hr : Room (k + 1) X.A) (hg : Gl X x) (hm : X.mg x = some (.ref C)) (hb : Binds X.K fd ps ds) (hd : Vals dvs ds) (hx : Passes CX X E)
  (ha : PA X (e :: es) t) (hdb : (x == ("__debug__" : Str)) = false := by decide) (he : starEach (e :: es) X.env = (false, eval e X.env) :: starEach es X.env := by rfl) (hpl : (backTo pos (starEach es X.env)).any (·.1) = false := by rfl) :
  PE X (.Call (.Name x p) (e :: es) [] pos) (tMake C sp dvs E t) := by
 intro pins s σ H Q I h
 refine wpAny_Call_Name_kw (ld_glob I hg hm ?_ hdb)
 refine PySem.W.callWith_K (h₀ := X.base) I.ok.mod.kin M.kp (thn (ha pos pins s σ H _ I h) fun us s1 ⟨vs, H1, I1, r, q⟩ => ⟨I1.kIn, ?_⟩) he hpl
 exact run_make M F hr hb hd hx I1 r q
theorem pe_make0 (M : Mk X.K C f) (F : FnOk X.prog X.w X.K X.mg X.base CX k f fd ps sp) (hr : Room (k + 1) X.A) (hg : Gl X x) (hm : X.mg x = some (.ref C)) (hb : Binds X.K fd ps ds) (hd : Vals dvs ds) (hx : Passes CX X E)
  (hdb : (x == ("__debug__" : Str)) = false := by decide) : PE X (.Call (.Name x p) [] [] pos) (tMake C sp dvs E tNil) := by
 intro pins s σ H Q I h
 refine wpAny_Call_Name_kw (ld_glob I hg hm ?_ hdb)
 exact PySem.W.callWith_K0 I.kIn M.kp (run_make (us := []) M F hr hb hd hx I .nil h)
end
section
variable {X : Cx} {CX : CXT} {k : Nat} {f C : Addr} {fd : FuncData} {ps ks : List Str} {sp : Sp} {E : XK} {x m : Str} {p pos apos kpos : Pos} {e o : Expr} {es : List Expr} {kws : List Keyword} {te ta : TE} {t tk : TA} {nm : Option Str}
variable {g : List Value → List Value → List Value} {gV : List V → List V → List V}
end
structure FnScope (N P : List Str) (sc : Scope) : Prop where
 kind : sc.kind = .function
 co : sc.isCoroutine = false
 gen : sc.isGenerator = false
 nd : N.Nodup
 pre : N.take P.length = P
 par : ∀ x ∈ P, sc.names.lookup x = some .local ∨ sc.names.lookup x = some .cell
 nofree : ∀ y ∈ sc.names, y.2 ≠ .free
theorem bindL_out {kindOf : Str → Option NameKind} {x : Str} : ∀ {binds : List (Str × Value)} {m : Str → Option Value}, (∀ v, (x, v) ∉ binds) → bindL kindOf binds m x = m x
 | [], _, _ => rfl
 | (n, v) :: r, m, h => by
  unfold bindL
  rw [bindL_out fun w hw => h w (List.mem_cons_of_mem _ hw)]
  split
  ·have : x ≠ n := by rintro rfl; exact h v List.mem_cons_self
   simp [this]
  ·rfl
theorem bindC_out {kindOf : Str → Option NameKind} {x : Str} : ∀ {binds : List (Str × Value)} {m : Str → Option Value}, (∀ v, (x, v) ∉ binds) → bindC kindOf binds m x = m x
 | [], _, _ => rfl
 | (n, v) :: r, m, h => by
  unfold bindC
  rw [bindC_out fun w hw => h w (List.mem_cons_of_mem _ hw)]
  split
  ·rfl
  ·have : x ≠ n := by rintro rfl; exact h v List.mem_cons_self
   simp [this]
theorem bindL_get {kindOf : Str → Option NameKind} {x : Str} {v : Value} : ∀ {P : List Str} {vs : List Value} {i : Nat} {m : Str → Option Value}, P.Nodup → P[i]? = some x → vs[i]? = some v → kindOf x = some .local →
  bindL kindOf (P.zip vs) m x = some v
 | [], _, _, _, _, h, _, _ => by simp at h
 | _ :: _, [], _, _, _, _, h, _ => by simp at h
 | p :: P, w :: vs, 0, m, nd, h1, h2, hk => by
  simp at h1 h2; subst h1; subst h2
  show bindL kindOf ((p, w) :: P.zip vs) m p = _
  unfold bindL
  rw [bindL_out fun v hv => (List.nodup_cons.mp nd).1 (List.of_mem_zip hv).1, if_pos hk]
  simp
 | p :: P, w :: vs, i + 1, m, nd, h1, h2, hk => by
  show bindL kindOf ((p, w) :: P.zip vs) m x = _
  unfold bindL
  exact bindL_get (i := i) (List.nodup_cons.mp nd).2 (by simpa using h1) (by simpa using h2) hk
theorem bindC_get {kindOf : Str → Option NameKind} {x : Str} {v : Value} : ∀ {P : List Str} {vs : List Value} {i : Nat} {m : Str → Option Value}, P.Nodup → P[i]? = some x → vs[i]? = some v → kindOf x ≠ some .local →
  bindC kindOf (P.zip vs) m x = some v
 | [], _, _, _, _, h, _, _ => by simp at h
 | _ :: _, [], _, _, _, _, h, _ => by simp at h
 | p :: P, w :: vs, 0, m, nd, h1, h2, hk => by
  simp at h1 h2; subst h1; subst h2
  show bindC kindOf ((p, w) :: P.zip vs) m p = _
  unfold bindC
  rw [bindC_out fun v hv => (List.nodup_cons.mp nd).1 (List.of_mem_zip hv).1, if_neg hk]
  simp
 | p :: P, w :: vs, i + 1, m, nd, h1, h2, hk => by
  show bindC kindOf ((p, w) :: P.zip vs) m x = _
  unfold bindC
  exact bindC_get (i := i) (List.nodup_cons.mp nd).2 (by simpa using h1) (by simpa using h2) hk
def start (N : List Str) (vs : List V) : St := vs.map some ++ List.replicate (N.length - vs.length) none
def cxOf (CX : CXT) (P : Program) (w : World) (K : PySem.W.Frag) (mg : Str → Option Value) (base : Heap) (N : List Str) (qual : Str) (scope : Scope) (f : Addr) (cd : Value) (A : Around) (outer : List Env) (s : Shared) (H : Hp) (E : XK) : Cx where
 prog := P
 w := w
 K := K
 mg := mg
 base := base
 A := A.deeper (envOfC qual scope s.heap.objs.size f cd)
 N := N
 s_0 := s
 H_0 := H
 env := envOfC qual scope s.heap.objs.size f cd
 outer := outer
 stack := envOfC qual scope s.heap.objs.size f cd :: outer
 ex := []
 calm := true
 fn := fun _ => true
 pn := []
 xe := fun e s' => wpAny (model P w) (A.deeper (envOfC qual scope s.heap.objs.size f cd)) (leaving (envOfC qual scope s.heap.objs.size f cd) e) (fun _ s'' => CX outer H s E e s'') (fun e' s'' => CX outer H s E e' s'') s'
theorem cell_has {sc : Scope} {n : Nat} {x : Str} (h : sc.names.lookup x = some .cell) : ∃ c, (cellsFrom n sc.names []).lookup x = some c := by
 have q := PySem.W.cellsFrom_some sc.names n [] (.inl h)
 exact Option.isSome_iff_exists.mp q
theorem inv_start {CX : CXT} {P : Program} {w : World} {K : PySem.W.Frag} {mg : Str → Option Value} {base : Heap} {N ps : List Str} {qual : Str} {scope : Scope} {f : Addr} {cd : Value} {A : Around} {outer : List Env} {s s1 : Shared} {H : Hp} {E : XK} {us : List Value} {vs : List V}
  (S : FnScope N ps scope) (hd : A.handled = none) (e0 : Env0 P w K mg base A outer s H) (hl : vs.length = ps.length) (r : Vals vs us)
  (x : InCallC s s.heap.objs.size (bindL (envOfC qual scope s.heap.objs.size f cd).kindOf (ps.zip us) fun _ => none) (cellsFrom (s.heap.objs.size + 1) scope.names []) (bindC (envOfC qual scope s.heap.objs.size f cd).kindOf (ps.zip us) fun _ => none) s1) :
  Inv (cxOf CX P w K mg base N qual scope f cd A outer s H E) [] (start N vs) H s1 := by
 have hpl : ps.length ≤ N.length := by have := congrArg List.length S.pre; rw [List.length_take] at this; omega
 obtain ⟨h1, tk, rfl, hk⟩ := x.done
 have noA : ∀ b : Addr, b ∉ (cxOf CX P w K mg base N qual scope f cd A outer s H E).ex := fun b z => absurd (show b ∈ ([] : List Addr) from z) (by simp)
 refine ⟨⟨e0.mod, S.kind, rfl, rfl, Nat.le_refl _, fun y z c h1 h2 => ?_, fun y hy => ?_, fun y c _ h => ?_, fun _ => hd, Around.frames_deeper e0.frames, .inr ⟨rfl, rfl⟩, fun b z => absurd z (noA b), e0.bs, e0.bsz, fun b _ _ => noA b, fun b z => absurd z (noA b), e0.funs, e0.frf⟩,
  rfl, e0.bare, Un.kept hk, ⟨_, x.toInCall.ns, fun i y v h1 h2 h3 => ?_⟩, fun y c h => ⟨_, x.cell y c h⟩, e0.hok.fresh (Nat.le_refl _), fun y c h => ?_, fun p hp => absurd (show p ∈ ([] : List (Addr × Obj)) from hp) (by simp), e0.hok.kept hk, ?_⟩
 ·exact name_of_addr x.apart (PySem.mem_of_lookup h1) (PySem.mem_of_lookup h2)
 ·have hy : scope.names.lookup y = some .cell ∨ scope.names.lookup y = some .free := hy
  rcases hy with hy | hy
  ·exact cell_has hy
  ·exact absurd rfl (S.nofree _ (PySem.mem_of_lookup hy))
 ·exact Nat.le_of_lt (x.above y c (PySem.mem_of_lookup h))
 ·have hi : i < vs.length := by
   unfold start at h2
   by_cases hi : i < vs.length
   ·exact hi
   ·rw [List.getElem?_append_right (by simpa using hi)] at h2
    rw [List.getElem?_replicate] at h2
    split at h2 <;> cases h2
  have ha : vs[i]? = some v := by
   unfold start at h2
   rw [List.getElem?_append_left (by simpa using hi), List.getElem?_map] at h2
   cases e : vs[i]? with
   | none => rw [e] at h2; cases h2
   | some a => rw [e] at h2; cases h2; rfl
  obtain ⟨u, hu, rv⟩ := r.get ha
  have hp : ps[i]? = some y := by
   rw [← S.pre, List.getElem?_take_of_lt (by omega)]; exact h1
  have ndP : ps.Nodup := by rw [← S.pre]; exact S.nd.sublist (List.take_sublist _ _)
  refine ⟨u, rv, ?_⟩
  rcases S.par y (List.mem_of_getElem? hp) with k | k
  ·exact .inl ⟨k, bindL_get ndP hp hu k⟩
  ·obtain ⟨c, e⟩ := cell_has (n := s.heap.objs.size + 1) k
   refine .inr ⟨.inl k, c, e, ?_⟩
   have q := x.cell y c e
   rw [bindC_get ndP hp hu (by show scope.names.lookup y ≠ _; rw [k]; decide)] at q
   exact q
 ·exact e0.hok.fresh (Nat.le_of_lt (x.above y c (PySem.mem_of_lookup h)))
 ·unfold start
  show _ = N.length
  rw [List.length_append, List.length_map, List.length_replicate]
  omega
theorem fn_of {CX : CXT} {P : Program} {w : World} {K : PySem.W.Frag} {mg : Str → Option Value} {base : Heap} {k : Nat} {f : Addr} {name qual : Str} {params : Arguments} {body : List Stmt} {scope : Scope} {dV kV doc pm cdv ct oc : Value} {an od : Option Addr}
  {osl : Array (Option Value)} {N ps : List Str} {sp : Sp} (lk : K.lookup f = some ⟨oc, od, .func (PySem.W.fnOf name qual params body scope dV kV doc pm an cdv ct), osl⟩) (hcd : PySem.W.codeIn K cdv qual = true) (S : FnScope N ps scope)
  (len : ∀ vs H Q E, sp vs H Q E → vs.length = ps.length)
  (hbody : ∀ (A : Around) (outer : List Env) (s : Shared) (H : Hp) (vs : List V) (Q : VK) (E : XK), Room k (A.deeper (envOfC qual scope s.heap.objs.size f cdv)) → sp vs H Q E →
   ∃ t, PSs (cxOf CX P w K mg base N qual scope f cdv A outer s H E) body t ∧ t { nx := fun _ H' => Q .non H', rt := Q } (start N vs) H) :
  FnOk P w K mg base CX (k + 1) f (PySem.W.fnOf name qual params body scope dV kV doc pm an cdv ct) ps sp := by
 refine ⟨len, fun A outer s H args us vs Q E hr e0 hb r hsp => ?_⟩
 have hl := len _ _ _ _ hsp
 have KX : K.In s.heap := e0.mod.kin.keeps fun b o e => (e0.bs b o e).1
 have lim : s.heap.NoLimit := e0.mod.nolimit.keeps fun b o e => (e0.bs b o e).1
 have hkind : ∀ y ∈ ps.zip us, scope.names.lookup y.1 = some .local ∨ (scope.names.lookup y.1 = some .cell ∧ ((cellsFrom (s.heap.objs.size + 1) scope.names []).lookup y.1).isSome = true) := fun ⟨n, v⟩ hy => by
  rcases S.par n (List.of_mem_zip hy).1 with q | q
  ·exact .inl q
  ·exact .inr ⟨q, PySem.W.cellsFrom_some _ _ _ (.inl q)⟩
 refine codeAny_call_function hr.depth (KX _ _ lk) rfl S.co S.gen rfl (PySem.W.codeRec_of KX hcd) (hb _ _ _ _ ?_)
 refine wpAny_newFunctionEnv_cells S.kind hkind fun env he s1 x => ?_
 subst he
 refine ⟨lim.keeps x.toInCall.keep, codeAny_func ?_⟩
 obtain ⟨t, ht, hq⟩ := hbody A outer s H vs Q E (hr.deeper _) hsp
 have I : Inv (cxOf CX P w K mg base N qual scope f cdv A outer s H E) [] (start N vs) H s1 := inv_start S hr.hd e0 hl r x
 refine wpAny_mono (ht [] s1 (start N vs) H _ I hq) (fun fl s' hs => ?_) fun e s' hs => hs
 have fin : ∀ {σ' : St} {H' : Hp} {v : V} {u : Value}, Inv (cxOf CX P w K mg base N qual scope f cdv A outer s H E) [] σ' H' s' → RelV v u → Q v H' → CE outer P w H s Q u s' :=
  fun {σ' H' v u} J rv q => ⟨v, H', J.os, J.bare, J.base, J.hok, rv, q⟩
 cases fl with
 | ret u =>
  obtain ⟨v, σ', H', J, rv, q⟩ := hs
  exact fin J rv q
 | next =>
  obtain ⟨σ', H', J, q⟩ := hs
  exact fin (v := V.non) (u := Value.none) J rfl q
 | brk =>
  obtain ⟨_, _, _, q⟩ := hs
  exact False.elim q
 | cont =>
  obtain ⟨_, _, _, q⟩ := hs
  exact False.elim q
end L2
namespace L2
open PySem PySem.Spec PyProof.Rows
section
variable {X : Cx} {x : Str} {p pos : Pos} {e : Expr} {es : List Expr} {t : TA} {id T : String} {r : List V → Hp → VK → Prop}
def tCB (r : List V → Hp → VK → Prop) (t : TA) : TE := fun σ H Q => t σ H fun vs H1 => r vs H1 Q
theorem pe_callB (hc : CallR X (.builtin id) r) (hg : Gl X x) (hm : X.mg x = none) (hv : bootBuiltins x = some (.builtin id)) (ha : PA X (e :: es) t) (hn : x ≠ "__name__" := by decide) (hdb : (x == ("__debug__" : Str)) = false := by decide)
  (he : starEach (e :: es) X.env = (false, eval e X.env) :: starEach es X.env := by rfl) (hpl : (backTo pos (starEach es X.env)).any (·.1) = false := by rfl) : PE X (.Call (.Name x p) (e :: es) [] pos) (tCB r t) := by
 intro pins s σ H Q I h
 refine wpAny_Call_Name_kw (ld_blt I hg hm hv ?_ hn hdb)
 exact PyProof.Rows.callWith_builtin1 (thn (ha pos pins s σ H _ I h) fun us s1 ⟨vs, H1, I1, r1, q1⟩ => hc pins s1 σ H1 vs us Q I1 r1 q1) he hpl
theorem pe_callTy (hc : CallR X (.type T) r) (hg : Gl X x) (hm : X.mg x = none) (hv : bootBuiltins x = some (.type T)) (ha : PA X (e :: es) t) (hn : x ≠ "__name__" := by decide) (hdb : (x == ("__debug__" : Str)) = false := by decide)
  (he : starEach (e :: es) X.env = (false, eval e X.env) :: starEach es X.env := by rfl) (hpl : (backTo pos (starEach es X.env)).any (·.1) = false := by rfl) : PE X (.Call (.Name x p) (e :: es) [] pos) (tCB r t) := by
 intro pins s σ H Q I h
 refine wpAny_Call_Name_kw (ld_blt I hg hm hv ?_ hn hdb)
 exact PyProof.Rows.callWith_type1 (thn (ha pos pins s σ H _ I h) fun us s1 ⟨vs, H1, I1, r1, q1⟩ => hc pins s1 σ H1 vs us Q I1 r1 q1) he hpl
end
end L2
namespace HT
open PySem PyProof.Rows
section
open PySem.SeqAt
open PySem.AutoSeq1 (wpAny_loadPart')
open PySem.MeetsSeq PySem.MeetsSeq2 PySem.MeetsSeq3
end
section
variable {prog : Program} {w : World} {A : Around} {E : Value → Shared → Prop} {s : Shared}
def sIx (n d : Nat) : Option Int → Nat
 | none => d
 | some v => if v < 0 then (v + (n : Int)).toNat else min v.toNat n
theorem sIx_none (n d : Nat) : sIx n d none = d := rfl
theorem sIx_nat (n d k : Nat) : sIx n d (some (k : Int)) = min k n := by
 show (if (k : Int) < 0 then ((k : Int) + (n : Int)).toNat else min (k : Int).toNat n) = min k n
 rw [if_neg (by omega), Int.toNat_natCast]
end
end HT
namespace L2
open PySem PySem.Spec PyProof.Rows
abbrev TO := St → Hp → (Option Int → Hp → Prop) → Prop
def PO (X : Cx) (e : Option Expr) (t : TO) : Prop :=
 ∀ (pins : List (Addr × Obj)) (s : Shared) (σ : St) (H : Hp) (Q : Option Int → Hp → Prop), Inv X pins σ H s → t σ H Q →
  wpAny (model X.prog X.w) X.A (evalPart e X.env) (fun u s' => ∃ o H', Inv X pins σ H' s' ∧ IsPart u o ∧ Q o H') X.xe s
def tNoPart : TO := fun _ H Q => Q none H
def tPart (t : TE) : TO := fun σ H Q => t σ H fun x H1 => ∃ i, x = .int i ∧ Q (some i) H1
section
variable {X : Cx} {e : Expr} {te : TE} {lo hi : Option Expr} {tl th : TO} {pos p2 : Pos}
theorem po_none : PO X none tNoPart := by
 intro pins s σ H Q I h
 rw [evalPart_none]
 exact wpAny_pure ⟨none, H, I, .none, h⟩
theorem po_some (h : PE X e te) : PO X (some e) (tPart te) := by
 intro pins s σ H Q I hw
 rw [evalPart_some]
 refine thn (h pins s σ H _ I hw) fun u s1 ⟨x, H1, I1, r1, q1⟩ => ?_
 obtain ⟨i, rfl, q⟩ := q1
 obtain ⟨t, rfl⟩ := r1
 exact ⟨some i, H1, I1, .int i t, q⟩
def SlR (X : Cx) (r : V → Option Int → Option Int → Hp → VK → Prop) : Prop :=
 ∀ (pins : List (Addr × Obj)) (s : Shared) (σ : St) (H : Hp) (x : V) (v vl vu : Value) (lo hi : Option Int) (sl : Addr) (Q : VK), Inv X pins σ H s → RelV x v → s.heap.IsSliceOf sl vl vu .none → IsPart vl lo → IsPart vu hi → r x lo hi H Q →
  ∃ T id, typeLookup (.type T) "__getitem__" = pure (some (.builtin id)) ∧ s.TypeIs v T ∧ wpAny (model X.prog X.w) X.A (getItem v (.ref sl)) (EP X pins σ Q) X.xe s
def tSl (r : V → Option Int → Option Int → Hp → VK → Prop) (te : TE) (tl th : TO) : TE := fun σ H Q => te σ H fun x H1 => tl σ H1 fun l H2 => th σ H2 fun u H3 => r x l u H3 Q
theorem pe_slice {r : V → Option Int → Option Int → Hp → VK → Prop} (hr : SlR X r) (he : PE X e te) (hl : PO X lo tl) (hu : PO X hi th) : PE X (.Subscript e (.Slice lo hi none p2) pos) (tSl r te tl th) := by
 intro pins s σ H Q I h
 refine Subscript_ (thn (he pins s σ H _ I h) fun v s1 ⟨x, H1, I1, r1, q1⟩ => ?_)
 refine wpAny_Slice (thn (hl pins s1 σ H1 _ I1 q1) fun vl s2 ⟨l, H2, I2, pl, q2⟩ => thn (hu pins s2 σ H2 _ I2 q2) fun vu s3 ⟨u, H3, I3, pu, q3⟩ => ?_)
 rw [evalPart_none]
 refine wpAny_pure ?_
 have I4 : Inv X pins σ H3 { s3 with heap := s3.heap.push { cls := .type "slice", data := .fields #[vl, vu, .none] } } := I3.kept (t' := s3.toks) fun b ob q => Heap.get?_push_of_some _ q
 obtain ⟨T, id, hT, ht, hg⟩ := hr pins { s3 with heap := s3.heap.push { cls := .type "slice", data := .fields #[vl, vu, .none] } } σ H3 x v vl vu l u s3.heap.objs.size Q I4 r1 (Heap.IsSliceOf.new ..) pl pu q3
 show wpAny (model X.prog X.w) X.A (subscriptTail e (.Slice lo hi none p2) v (.ref s3.heap.objs.size)) (EP X pins σ Q) X.xe { s3 with heap := s3.heap.push { cls := .type "slice", data := .fields #[vl, vu, .none] } }
 exact tail_any (ops := [.ref s3.heap.objs.size, v]) ht hT hg (by with_unfolding_all rfl)
def cutV (xs : List V) (lo hi : Option Int) : List V := (xs.drop (HT.sIx xs.length 0 lo)).take (HT.sIx xs.length xs.length hi - HT.sIx xs.length 0 lo)
theorem cutV_length (xs : List V) (lo hi : Option Int) : (cutV xs lo hi).length ≤ xs.length := by
 unfold cutV
 rw [List.length_take, List.length_drop]
 omega
end
end L2
namespace L2
open PySem PySem.Spec PyProof.Rows
def ixN (n : Nat) (i : Int) : Option Nat := if 0 ≤ i then (if i < n then some i.toNat else none) else if -(n : Int) ≤ i then some (i + n).toNat else none
def atI {α : Type} (xs : List α) (i : Int) : Option α := (ixN xs.length i).bind fun j => xs[j]?
theorem ixN_seq {n : Nat} {i : Int} {j : Nat} (h : ixN n i = some j) : seqIndex? i n = some j ∧ j < n ∧ -(n : Int) ≤ i ∧ i < n := by
 unfold ixN at h
 by_cases h0 : 0 ≤ i
 ·rw [if_pos h0] at h
  by_cases h1 : i < n
  ·rw [if_pos h1] at h
   have e : i.toNat = j := Option.some.inj h
   exact ⟨by rw [seqIndex_of h0 h1, e], by omega, by omega, h1⟩
  ·rw [if_neg h1] at h; cases h
 ·rw [if_neg h0] at h
  by_cases h1 : -(n : Int) ≤ i
  ·rw [if_pos h1] at h
   have e : (i + n).toNat = j := Option.some.inj h
   exact ⟨by rw [seqIndex_neg (by omega) h1, e], by omega, h1, by omega⟩
  ·rw [if_neg h1] at h; cases h
theorem atI_get {α : Type} {xs : List α} {i : Int} {v : α} (h : atI xs i = some v) : ∃ j, seqIndex? i xs.length = some j ∧ xs[j]? = some v ∧ j < xs.length ∧ -(xs.length : Int) ≤ i ∧ i < xs.length := by
 unfold atI at h
 cases e : ixN xs.length i with
 | none => rw [e] at h; cases h
 | some j =>
  rw [e] at h
  obtain ⟨h1, h2, h3, h4⟩ := ixN_seq e
  exact ⟨j, h1, h, h2, h3, h4⟩
theorem atI_nat {α : Type} {xs : List α} {j : Nat} {v : α} (h : xs[j]? = some v) : atI xs (j : Int) = some v := by
 have hj : j < xs.length := (List.getElem?_eq_some_iff.mp h).1
 have e : ixN xs.length (j : Int) = some j := by
  unfold ixN
  rw [if_pos (by omega), if_pos (by omega)]; simp
 unfold atI; rw [e]; exact h
def PlainIx (b : Expr) : Prop := ∀ o i, subscripted b false o i = operate [o, i] (getItem o i)
def IxR (X : Cx) (r : R2) : Prop :=
 ∀ (value slice : Expr) (pins : List (Addr × Obj)) (s : Shared) (σ : St) (H : Hp) (x y : V) (v u : Value) (Q : VK), Inv X pins σ H s → RelV x v → RelV y u → r x y H Q →
  subscripted slice false v u = operate [v, u] (getItem v u) → wpAny (model X.prog X.w) X.A (subscriptTail value slice v u) (EP X pins σ Q) X.xe s
def MtR (X : Cx) (id : String) (r : V → List V → Hp → VK → Prop) : Prop :=
 ∀ (pins : List (Addr × Obj)) (s : Shared) (σ : St) (H : Hp) (x : V) (xs : List V) (v : Value) (us : List Value) (Q : VK), Inv X pins σ H s → RelV x v → Vals xs us → r x xs H Q →
  wpAny (model X.prog X.w) X.A (call (.builtin id) (v :: us)) (EP X pins σ Q) X.xe s
section
variable {X : Cx} {a b : Expr} {ta tb : TE} {pos : Pos}
theorem pe_ix {r : R2} (hr : IxR X r) (ha : PE X a ta) (hb : PE X b tb) (hs : PlainIx b) : PE X (.Subscript a b pos) (tOp r ta tb) := by
 intro pins s σ H Q I h
 exact Subscript_ (binT ha hb I h fun v u s2 x y H2 I2 rx ry q => hr a b pins s2 σ H2 x y v u Q I2 rx ry q (hs _ _))
def rIxL (K : PySem.W.Frag) : R2 := fun x y H Q => ∃ p xs i v, x = .ref p ∧ y = .int i ∧ SqL K H p xs ∧ atI xs i = some v ∧ Q v H
def rIxT (K : PySem.W.Frag) : R2 := fun x y H Q => ∃ p xs i v, x = .ref p ∧ y = .int i ∧ SqT K H p xs ∧ atI xs i = some v ∧ Q v H
theorem ix_list : IxR X (rIxL X.K) := by
 intro value slice pins s σ H x y v u Q I rx ry h hs
 obtain ⟨p, xs, i, z, rfl, rfl, hq, he, q⟩ := h
 cases rx
 obtain ⟨t, rfl⟩ := ry
 obtain ⟨its, r, pl, hz⟩ := I.list hq
 obtain ⟨j, h1, h2, h3, h4, h5⟩ := atI_get he
 obtain ⟨w, ew, rw'⟩ := r.get h2
 have hl := r.length
 have hn := line63
 have fin : EP X pins σ Q w s := ⟨z, H, I, rw', q⟩
 by_cases h0 : 0 ≤ i
 ·have hj : i.toNat = j := by
   rw [seqIndex_of h0 h5] at h1
   exact Option.some.inj h1
  exact item_listR pl.isList h0 (by omega) (by rw [hj]; simpa using ew) fin hs
 ·have hj : (i + (its.toArray.size : Int)).toNat = j := by
   rw [seqIndex_neg (by omega) h4] at h1
   rw [List.size_toArray, ← hl]
   exact Option.some.inj h1
  exact subscriptTail_builtinR (x := w) pl.isList.typeIs slot_list_getitem.lookup
   (wpAny_getItem_list_neg (Q := fun r s' => r = w ∧ EP X pins σ Q r s') pl.isList (by omega) (by rw [List.size_toArray] <;> omega) (by omega) (by rw [hj]; simpa using ew) ⟨rfl, fin⟩) hs
theorem ix_tup : IxR X (rIxT X.K) := by
 intro value slice pins s σ H x y v u Q I rx ry h hs
 obtain ⟨p, xs, i, z, rfl, rfl, hq, he, q⟩ := h
 cases rx
 obtain ⟨t, rfl⟩ := ry
 obtain ⟨its, r, pl, hz⟩ := I.tuple hq
 obtain ⟨j, h1, h2, h3, h4, h5⟩ := atI_get he
 obtain ⟨w, ew, rw'⟩ := r.get h2
 have hl := r.length
 have hn := line63
 have fin : EP X pins σ Q w s := ⟨z, H, I, rw', q⟩
 exact subscriptTail_builtinR (x := w) pl.typeIs slot_tuple_getitem.lookup
  (getItem_tuple (j := j) (Q := fun r s' => r = w ∧ EP X pins σ Q r s') pl (by omega) (by omega) (by rw [List.size_toArray, ← hl]; exact h1) (by simpa using ew) ⟨rfl, fin⟩) hs
theorem mapSeq_set (its : List Value) (n j : Nat) (u : Value) : Obj.mapSeq (·.setIfInBounds j u) { cls := .type "list", data := .seq its.toArray n } = { cls := .type "list", data := .seq (its.set j u).toArray n } := by
 simp [Obj.mapSeq]
theorem Inv.lst {pins : List (Addr × Obj)} {σ : St} {H : Hp} {s : Shared} {p : Addr} {xs : List V} (I : Inv X pins σ H s) (h : H p = some (.lst xs)) :
  ∃ (its : List Value) (n : Nat), Vals xs its ∧ s.heap.get? p = some { cls := .type "list", data := .seq its.toArray n } ∧ xs.length ≤ sizeLine := by
 obtain ⟨z, its, n, r, e⟩ := I.hok p _ h
 exact ⟨its, n, r, e, z⟩
theorem Inv.lstUpd {pins : List (Addr × Obj)} {σ : St} {H : Hp} {s : Shared} {p : Addr} {xs ys : List V} {its its' : List Value} {n n' : Nat} {f : Obj → Obj} (I : Inv X pins σ H s) (h : H p = some (.lst xs))
  (ho : s.heap.get? p = some { cls := .type "list", data := .seq its.toArray n }) (hf : f { cls := .type "list", data := .seq its.toArray n } = { cls := .type "list", data := .seq its'.toArray n' }) (r : Vals ys its') (hz : ys.length ≤ sizeLine) (t : Nat) :
  Inv X pins σ (upd H p (.lst ys)) { s with heap := s.heap.update p f, toks := t } := by
 have e : (s.heap.update p f).get? p = some { cls := .type "list", data := .seq its'.toArray n' } := by
  rw [Heap.get?_update_self f ho (by rw [hf] <;> rfl), hf]
 refine I.write (x := p) (e := p) (by rw [h]; trivial) (.inl rfl) (fun b u hb q => (Heap.get?_update_other _ _ (Ne.symm hb)).trans q) ⟨_, e⟩ ?_
 exact ⟨hz, its', n', r, e⟩
def rSetL : V → V → V → Hp → (Hp → Prop) → Prop := fun o i v H Q => ∃ p xs k j, o = .ref p ∧ i = .int k ∧ H p = some (.lst xs) ∧ ixN xs.length k = some j ∧ Q (upd H p (.lst (xs.set j v)))
theorem set_list : PSet X rSetL := by
 intro pins s σ H o i v ov iv u Q I ro ri rv h
 obtain ⟨p, xs, k, j, rfl, rfl, hp, hj, q⟩ := h
 cases ro
 obtain ⟨t, rfl⟩ := ri
 obtain ⟨its, n, r, ho, hz⟩ := I.lst hp
 obtain ⟨h1, h2, h3, h4⟩ := ixN_seq hj
 have hl := r.length
 have hn := line63
 have I' : Inv X pins σ (upd H p (.lst (xs.set j v))) { s with heap := s.heap.update p (Obj.mapSeq (·.setIfInBounds j u)) } :=
  I.lstUpd hp ho (mapSeq_set its n j u) (r.set rv j) (by rw [List.length_set]; exact hz) s.toks
 by_cases h0 : 0 ≤ k
 ·have hk : k.toNat = j := by
   rw [seqIndex_of h0 h4] at h1
   exact Option.some.inj h1
  exact PySem.W.ki_setAt ho h0 (by omega) (by rw [List.size_toArray, ← hl]; exact h4) (by rw [hk]; exact ⟨_, I', q⟩)
 ·have hk : (k + (its.toArray.size : Int)).toNat = j := by
   rw [seqIndex_neg (by omega) h3] at h1
   rw [List.size_toArray, ← hl]
   exact Option.some.inj h1
  exact PySem.W.ki_setBack ho (by omega) (by rw [List.size_toArray, ← hl]; exact h3) (by omega) (by rw [hk]; exact ⟨_, I', q⟩)
theorem slice_bounds (lo hi : Option Int) (n : Nat) : (sliceBounds lo hi none n).1 = ((HT.sIx n 0 lo : Nat) : Int) ∧ (sliceBounds lo hi none n).2.1 = ((HT.sIx n n hi : Nat) : Int) ∧ (sliceBounds lo hi none n).2.2 = 1 := by
 refine ⟨?_, ?_, rfl⟩
 ·cases lo with
  | none => simp [sliceBounds, HT.sIx]
  | some i =>
   simp only [sliceBounds, HT.sIx, Option.getD_none, show (1 : Int) > 0 by decide, if_true]
   by_cases h : i < 0
   ·simp only [h, if_true] <;> omega
   ·simp only [h, if_false] <;> omega
 ·cases hi with
  | none => simp [sliceBounds, HT.sIx]
  | some i =>
   simp only [sliceBounds, HT.sIx, Option.getD_none, show (1 : Int) > 0 by decide, if_true]
   by_cases h : i < 0
   ·simp only [h, if_true] <;> omega
   ·simp only [h, if_false] <;> omega
theorem slicePick_cut (its : List Value) (lo hi : Option Int) : slicePick its.toArray lo hi none = ((its.drop (HT.sIx its.length 0 lo)).take (HT.sIx its.length its.length hi - HT.sIx its.length 0 lo)).toArray := by
 obtain ⟨h1, h2, h3⟩ := slice_bounds lo hi its.toArray.size
 unfold slicePick
 rw [h1, h2, h3]
 simp only [sliceRange_one, pick_run, List.size_toArray] <;> rfl
def rSlL (K : PySem.W.Frag) : V → Option Int → Option Int → Hp → VK → Prop := fun x lo hi H Q => ∃ a xs, x = .ref a ∧ SqL K H a xs ∧ ∀ p, H p = none → Q (.ref p) (upd H p (.lst (cutV xs lo hi)))
theorem sl_list : SlR X (rSlL X.K) := by
 intro pins s σ H x v vl vu lo hi sl Q I rx hs pl pu h
 obtain ⟨a, xs, rfl, hx, q⟩ := h
 cases rx
 obtain ⟨its, r, ht, hz⟩ := I.list hx
 have hlen := r.length
 refine ⟨"list", _, slot_list_getitem.lookup, ht.isList.typeIs, ?_⟩
 refine wpAny_getItem_list_slice ht.isList hs pl pu .none (by simp) ?_ (by rw [List.size_toArray] <;> omega)
 rw [slicePick_cut, ← hlen]
 refine ⟨.ref s.heap.objs.size, _, I.laid (t' := s.toks) (o := .lst (cutV xs lo hi)) (fun b ob q => Heap.get?_push_of_some _ q) (Nat.le_refl _) ?_, rfl, q _ (I.hok.fresh (Nat.le_refl _))⟩
 exact ⟨Nat.le_trans (cutV_length xs lo hi) hz, _, 0, (r.drop (HT.sIx xs.length 0 lo)).take (HT.sIx xs.length xs.length hi - HT.sIx xs.length 0 lo), Heap.get?_push_size _ rfl⟩
def flatV : V → Bool
 | .non => true
 | .bl _ => true
 | .int _ => true
 | .str _ => true
 | _ => false
def eqV : V → V → Bool
 | .non, .non => true
 | .bl a, .bl b => a == b
 | .bl a, .int b => (if a then 1 else 0) == b
 | .int a, .bl b => a == (if b then 1 else 0)
 | .int a, .int b => a == b
 | .str a, .str b => a == b
 | _, _ => false
theorem eqAt_V {A : Around} {s : Shared} {y x : V} {u v : Value} (ry : RelV y u) (rx : RelV x v) (fy : flatV y = true) (fx : flatV x = true) : SeqAt.EqAt A s u v (eqV y x) := by
 cases y with
 | non =>
  cases ry
  cases x with
  | non => cases rx; exact SeqAt.EqAt.same _
  | bl b => cases rx; exact SeqAt.EqAt.none_bool b
  | int b => obtain ⟨t, rfl⟩ := rx; exact SeqAt.EqAt.none_int b t
  | str b => obtain ⟨t, rfl⟩ := rx; exact SeqAt.EqAt.none_str b t
  | _ => exact absurd (show false = true from fx) Bool.false_ne_true
 | bl a =>
  cases ry
  cases x with
  | non => cases rx; exact SeqAt.EqAt.bool_none a
  | bl b => cases rx; exact SeqAt.EqAt.bool_bool a b
  | int b => obtain ⟨t, rfl⟩ := rx; exact SeqAt.EqAt.bool_int a b t
  | str b => obtain ⟨t, rfl⟩ := rx; exact SeqAt.EqAt.bool_str a b t
  | _ => exact absurd (show false = true from fx) Bool.false_ne_true
 | int a =>
  obtain ⟨t', rfl⟩ := ry
  cases x with
  | non => cases rx; exact SeqAt.EqAt.int_none a t'
  | bl b => cases rx; exact SeqAt.EqAt.int_bool a t' b
  | int b => obtain ⟨t, rfl⟩ := rx; exact SeqAt.EqAt.int_int a t' b t
  | str b => obtain ⟨t, rfl⟩ := rx; exact SeqAt.EqAt.int_str a t' b t
  | _ => exact absurd (show false = true from fx) Bool.false_ne_true
 | str a =>
  obtain ⟨t', rfl⟩ := ry
  cases x with
  | non => cases rx; exact SeqAt.EqAt.str_none a t'
  | bl b => cases rx; exact SeqAt.EqAt.str_bool a t' b
  | int b => obtain ⟨t, rfl⟩ := rx; exact SeqAt.EqAt.str_int a t' b t
  | str b => obtain ⟨t, rfl⟩ := rx; exact SeqAt.EqAt.str_str a t' b t
  | _ => exact absurd (show false = true from fx) Bool.false_ne_true
 | _ => exact absurd (show false = true from fy) Bool.false_ne_true
def eqU (x : V) (u : Value) : Bool := match u with
 | .none => eqV .non x
 | .bool b => eqV (.bl b) x
 | .int i _ => eqV (.int i) x
 | .str z _ => eqV (.str z) x
 | _ => false
theorem eqU_of {x y : V} {u : Value} (r : RelV y u) (f : flatV y = true) : eqU x u = eqV y x := by
 cases y with
 | non => cases r; rfl
 | bl b => cases r; rfl
 | int i => obtain ⟨t, rfl⟩ := r; rfl
 | str z => obtain ⟨t, rfl⟩ := r; rfl
 | _ => exact absurd (show false = true from f) Bool.false_ne_true
theorem any_eqU {x : V} : ∀ {xs : List V} {us : List Value}, Vals xs us → xs.all flatV = true → us.any (eqU x) = xs.any fun y => eqV y x
 | _, _, .nil, _ => rfl
 | y :: xs, u :: us, .cons r t, f => by
  rw [List.all_cons, Bool.and_eq_true] at f
  rw [List.any_cons, List.any_cons, eqU_of r f.1, any_eqU t f.2]
theorem mem_eqAt {A : Around} {s : Shared} {x : V} {v : Value} (rx : RelV x v) (fx : flatV x = true) : ∀ {xs : List V} {us : List Value}, Vals xs us → xs.all flatV = true → ∀ u ∈ us, SeqAt.EqAt A s u v (eqU x u)
 | _, _, .nil, _ => fun u hu => by cases hu
 | y :: xs, u :: us, .cons r t, f => fun u' hu => by
  rw [List.all_cons, Bool.and_eq_true] at f
  rcases List.mem_cons.mp hu with rfl | hu
  ·rw [eqU_of r f.1]; exact eqAt_V r rx f.1 fx
  ·exact mem_eqAt rx fx t f.2 u' hu
def inV (x : V) (xs : List V) : Bool := xs.any fun y => eqV y x
def rIn (K : PySem.W.Frag) (neg : Bool) : R2 := fun x y H Q => ∃ p xs, y = .ref p ∧ (SqL K H p xs ∨ SqT K H p xs) ∧ flatV x = true ∧ xs.all flatV = true ∧ Q (.bl (if neg then !inV x xs else inV x xs)) H
theorem op_in_seq : OpR X (compareOp .In) (rIn X.K false) := by
 intro pins s σ H x y v u Q I rx ry h
 obtain ⟨p, xs, rfl, hq, fx, fs, q⟩ := h
 cases ry
 rcases hq with hq | hq
 ·obtain ⟨its, r, pl, hz⟩ := I.list hq
  refine SeqAt.in_listAt (eqU x) pl.isList (fun w hw => mem_eqAt rx fx r fs w (by simpa using hw)) ⟨.bl _, H, I, rfl, ?_⟩
  rw [show its.toArray.any (eqU x) = its.any (eqU x) by simp, any_eqU r fs]
  exact q
 ·obtain ⟨its, r, pl, hz⟩ := I.tuple hq
  refine SeqAt.in_tupleAt (eqU x) pl (fun w hw => mem_eqAt rx fx r fs w (by simpa using hw)) ⟨.bl _, H, I, rfl, ?_⟩
  rw [show its.toArray.any (eqU x) = its.any (eqU x) by simp, any_eqU r fs]
  exact q
theorem op_notIn_seq : OpR X (compareOp .NotIn) (rIn X.K true) := by
 intro pins s σ H x y v u Q I rx ry h
 obtain ⟨p, xs, rfl, hq, fx, fs, q⟩ := h
 cases ry
 rcases hq with hq | hq
 ·obtain ⟨its, r, pl, hz⟩ := I.list hq
  refine SeqAt.notIn_listAt (eqU x) pl.isList (fun w hw => mem_eqAt rx fx r fs w (by simpa using hw)) ⟨.bl _, H, I, rfl, ?_⟩
  rw [show its.toArray.any (eqU x) = its.any (eqU x) by simp, any_eqU r fs]
  exact q
 ·obtain ⟨its, r, pl, hz⟩ := I.tuple hq
  refine SeqAt.notIn_tupleAt (eqU x) pl (fun w hw => mem_eqAt rx fx r fs w (by simpa using hw)) ⟨.bl _, H, I, rfl, ?_⟩
  rw [show its.toArray.any (eqU x) = its.any (eqU x) by simp, any_eqU r fs]
  exact q
theorem call_len_seq : CallR X (.builtin "len") (fun xs H Q => ∃ p ys, xs = [.ref p] ∧ (SqL X.K H p ys ∨ SqT X.K H p ys) ∧ Q (.int ys.length) H) := by
 intro pins s σ H xs us Q I r h
 obtain ⟨p, ys, rfl, hq, q⟩ := h
 obtain ⟨u, rfl, rx⟩ := vals1 r
 cases rx
 have hn := line63
 rcases hq with hq | hq
 ·obtain ⟨its, r', pl, hz⟩ := I.list hq
  have hlen := r'.length
  exact Calls.call_len_list pl.isList (by simp only [List.size_toArray] <;> omega) ⟨.int ys.length, H, I.tok _, ⟨s.toks + 1, by rw [List.size_toArray, hlen]⟩, q⟩
 ·obtain ⟨its, r', pl, hz⟩ := I.tuple hq
  have hlen := r'.length
  exact len_tuple pl (by simp only [List.size_toArray] <;> omega) ⟨.int ys.length, H, I.tok _, ⟨s.toks + 1, by rw [List.size_toArray, hlen]⟩, q⟩
def tyV (K : PySem.W.Frag) (T : String) (x : V) (H : Hp) : Prop := match x with
 | .str _ => T = "str"
 | .int _ => T = "int"
 | .ref p => (T = "list" ∧ ∃ xs, SqL K H p xs) ∨ (T = "tuple" ∧ ∃ o, K.lookup p = some o ∧ o.cls = .type "tuple" ∧ o.dict = none) ∨
   (T = "dict" ∧ ((∃ kvs, H p = some (.dK kvs)) ∨ ∃ kvs, H p = some (.dT kvs))) ∨ (T = "set" ∧ ∃ S n, H p = some (.set S n))
 | _ => False
theorem tyV_is {pins : List (Addr × Obj)} {σ : St} {H : Hp} {s : Shared} {T : String} {x : V} {v : Value} (I : Inv X pins σ H s) (r : RelV x v) (ty : tyV X.K T x H) :
  s.TypeIs v T ∧ ∀ a, v = .ref a → ∃ ob, s.heap.get? a = some ob ∧ ob.dict = none := by
 cases x with
 | str z =>
  obtain ⟨t, rfl⟩ := r
  cases (show T = "str" from ty)
  exact ⟨typeIs_str s z t, fun _ e => nomatch e⟩
 | int i =>
  obtain ⟨t, rfl⟩ := r
  cases (show T = "int" from ty)
  exact ⟨typeIs_int s i t, fun _ e => nomatch e⟩
 | ref p =>
  cases r
  rcases ty with ⟨rfl, xs, hq⟩ | ⟨rfl, o, hk, hc, hd⟩ | ⟨rfl, hk⟩ | ⟨rfl, S, n, hk⟩
  ·obtain ⟨its, _, pl, _⟩ := I.list hq
   refine ⟨pl.isList.typeIs, fun a e => ?_⟩
   cases e
   obtain ⟨o, n, e, c, hd, _⟩ := pl
   exact ⟨o, e, hd⟩
  ·refine ⟨⟨o, I.kIn p o hk, hc⟩, fun a e => ?_⟩
   cases e
   exact ⟨o, I.kIn _ o hk, hd⟩
  ·have z : ∃ o, s.heap.get? p = some o ∧ o.ExactDict := by
    rcases hk with ⟨kvs, hk⟩ | ⟨kvs, hk⟩
    ·obtain ⟨_, _, _, _, o, _, _, e, ex, _⟩ := I.hok p _ hk
     exact ⟨o, e, ex⟩
    ·obtain ⟨_, _, _, _, o, _, _, e, ex, _⟩ := I.hok p _ hk
     exact ⟨o, e, ex⟩
   obtain ⟨o, e, ex⟩ := z
   refine ⟨⟨o, e, ex.1⟩, fun a e2 => ?_⟩
   cases e2
   exact ⟨o, e, ex.2.1⟩
  ·obtain ⟨o, _, _, _, e, ex, _⟩ := I.hok p _ hk
   refine ⟨⟨o, e, ex.1⟩, fun a e2 => ?_⟩
   cases e2
   exact ⟨o, e, ex.2.1⟩
 | _ => exact False.elim ty
def tBM (K : PySem.W.Frag) (T : String) (r : V → List V → Hp → VK → Prop) (to : TE) (t : TA) : TE := fun σ H Q => to σ H fun x H1 => tyV K T x H1 ∧ t σ H1 fun xs H2 => r x xs H2 Q
variable {o e : Expr} {es : List Expr} {to : TE} {t : TA} {name : Str} {apos cpos : Pos} {T id : String} {r : V → List V → Hp → VK → Prop}
theorem pe_bm (pa : PlainAttrs T) (slot : Slot T name id) (hty : typeOf (.builtin id) = pure (.type "method_descriptor")) (hm : MtR X id r) (ho : PE X o to) (ha : PA X (e :: es) t)
  (hbase : attributeBase o name X.env (eval o X.env) = eval o X.env := by rfl)
  (hfew : ((backTo cpos (starEach (e :: es) X.env)).all (fun x => !x.1) && (backToKw cpos (keywordEach [] X.env)).all (fun x => x.1.isSome)
   && decide ((e :: es).length + ([] : List Keyword).length + (if ([] : List Keyword).isEmpty then 0 else 1) < 30)) = true := by rfl)
  (hline : (apos.endLine == cpos.line) = true := by rfl) (hs : starEach (e :: es) X.env = (false, eval e X.env) :: starEach es X.env := by rfl) (hplain : (backTo cpos (starEach es X.env)).any (·.1) = false := by rfl) :
  PE X (.Call (.Attribute o name apos) (e :: es) [] cpos) (tBM X.K T r to t) := by
 intro pins s σ H Q I h
 refine wpAny_Call_method_late hbase hfew hline rfl (thn (ho pins s σ H _ I h) fun v s1 ⟨x, H1, I1, r1, ty, q1⟩ => ?_)
 obtain ⟨h1, h2⟩ := tyV_is I1 r1 ty
 refine ⟨T, id, pa, slot, hty, h1, h2, ?_⟩
 have hA := ha cpos pins s1 σ H1 _ I1 q1
 rw [hs] at hA ⊢
 refine Calls.callWith_builtin (by show (false || (backTo cpos (starEach es X.env)).any (·.1)) = false; rw [hplain] <;> rfl) (Calls.evalArgs_plain ?_)
 exact thn hA fun us s2 ⟨vs, H2, I2, r2, q2⟩ => hm pins s2 σ H2 x vs v us Q I2 r1 r2 q2
end
end L2
namespace L2
open PySem PySem.Spec PyProof.Rows
def MtM (X : Cx) (id : String) (r : V → List V → Hp → VK → Prop) : Prop :=
 ∀ (pins : List (Addr × Obj)) (s : Shared) (σ : St) (H : Hp) (x : V) (xs : List V) (v : Value) (us : List Value) (Q : VK), Inv X pins σ H s → RelV x v → Vals xs us → r x xs H Q →
  wpAny (model X.prog X.w) X.A (call (.builtin id) (v :: us)) (EP X pins σ Q) X.xe s
theorem Vals.one : ∀ {x : V} {us : List Value}, Vals [x] us → ∃ u, us = [u] ∧ RelV x u
 | _, _, .cons r .nil => ⟨_, rfl, r⟩
theorem Vals.rep {xs : List V} {us : List Value} (h : Vals xs us) : ∀ k : Nat, Vals (List.replicate k xs).flatten (List.replicate k us).flatten
 | 0 => .nil
 | k + 1 => by
  rw [List.replicate_succ, List.replicate_succ, List.flatten_cons, List.flatten_cons]
  exact Vals.append h (Vals.rep h k)
theorem foldl_rep (its : List Value) : ∀ (k : Nat) (acc : List Value),
  List.foldl (fun x1 x2 => x1 ++ x2) acc.toArray (List.replicate k its.toArray) = (acc ++ (List.replicate k its).flatten).toArray
 | 0, acc => by simp
 | k + 1, acc => by
  have e : acc.toArray ++ its.toArray = (acc ++ its).toArray := by simp
  have e2 : (acc ++ its) ++ (List.replicate k its).flatten = acc ++ (List.replicate (k + 1) its).flatten := by
   rw [List.replicate_succ, List.flatten_cons, List.append_assoc]
  rw [← e2, ← foldl_rep its k (acc ++ its), ← e, List.replicate_succ, List.foldl_cons]
section
variable {X : Cx} {pins : List (Addr × Obj)} {σ : St} {H : Hp} {s : Shared} {l b : Addr} {xs ys zs : List V}
theorem Inv.lset {its its' : List Value} {n : Nat} {f : Array Value → Array Value} {t' : Nat} (I : Inv X pins σ H s) (hH : H l = some (.lst xs))
  (e : s.heap.get? l = some { cls := .type "list", data := .seq its.toArray n }) (hf : f its.toArray = its'.toArray) (hv : Vals ys its') (hz : ys.length ≤ sizeLine) :
  Inv X pins σ (upd H l (.lst ys)) { s with heap := s.heap.update l (Obj.mapSeq f), toks := t' } := by
 have q := PySem.IsL.update e f
 rw [hf] at q
 refine I.write (x := l) (e := l) (by rw [hH]; exact trivial) (.inl rfl) (fun b' u hb hu => (Heap.get?_update_other s.heap (Obj.mapSeq f) (Ne.symm hb)).trans hu) ⟨_, q⟩ ?_
 exact ⟨hz, its', _, hv, q⟩
theorem Inv.lnew {its : List Value} {t' : Nat} (I : Inv X pins σ H s) (hv : Vals ys its) (hz : ys.length ≤ sizeLine) :
  Inv X pins σ (upd H s.heap.objs.size (.lst ys)) { s with heap := s.heap.push { cls := .type "list", data := .seq its.toArray }, toks := t' } :=
 I.laid (fun _ _ q => Heap.get?_push_of_some _ q) (Nat.le_refl _) ⟨hz, its, 0, hv, Heap.get?_push_size _ rfl⟩
theorem Inv.fresh (I : Inv X pins σ H s) : H s.heap.objs.size = none := I.hok.fresh (Nat.le_refl _)
theorem Inv.lstM (I : Inv X pins σ H s) (hH : H l = some (.lst xs)) : xs.length ≤ sizeLine ∧ ∃ (its : List Value) (n : Nat), Vals xs its ∧ xs.length = its.length ∧ s.heap.get? l = some { cls := .type "list", data := .seq its.toArray n } := by
 obtain ⟨z, its, n, r, e⟩ := I.hok l _ hH
 exact ⟨z, its, n, r, r.length, e⟩
theorem notLongL {n : Nat} (h : n ≤ sizeLine) : Builtin.List.listTooLong n = false := by
 unfold Builtin.List.listTooLong
 exact decide_eq_false (by omega)
end
section
variable {X : Cx}
def rAppend : V → List V → Hp → VK → Prop := fun x vs H Q => ∃ l xs y, x = .ref l ∧ vs = [y] ∧ H l = some (.lst xs) ∧ xs.length < sizeLine ∧ Q .non (upd H l (.lst (xs ++ [y])))
theorem mt_append : MtM X "list.append" rAppend := by
 intro pins s σ H x vs v us Q I rx rv h
 obtain ⟨l, xs, y, rfl, rfl, hH, hz, q⟩ := h
 cases rx
 obtain ⟨u, rfl, ru⟩ := rv.one
 obtain ⟨z, its, n, r, hl, e⟩ := I.lstM hH
 refine call_meets F.slot_list_append ⟨_, e, rfl⟩ F.entry_list_append (F.args_list_append_2 _ _) (PySem.list_append l its.toArray n u (by rw [List.size_toArray]; omega)) ⟨e, ?_⟩
 refine ⟨.non, _, I.lset (its' := its ++ [u]) hH e (by simp) (r.append (.cons ru .nil)) ?_, rfl, q⟩
 rw [List.length_append, List.length_singleton]
 omega
def rExtend : V → List V → Hp → VK → Prop := fun x vs H Q => ∃ l b xs zs, x = .ref l ∧ vs = [.ref b] ∧ H l = some (.lst xs) ∧ H b = some (.lst zs) ∧ xs.length + zs.length ≤ sizeLine ∧ Q .non (upd H l (.lst (xs ++ zs)))
theorem mt_extend : MtM X "list.extend" rExtend := by
 intro pins s σ H x vs v us Q I rx rv h
 obtain ⟨l, b, xs, zs, rfl, rfl, hH, hB, hz, q⟩ := h
 cases rx
 obtain ⟨u, rfl, ru⟩ := rv.one
 cases ru
 obtain ⟨z, its, n, r, hl, e⟩ := I.lstM hH
 obtain ⟨z2, its2, n2, r2, hl2, e2⟩ := I.lstM hB
 have hsz : its.toArray.size + its2.toArray.size ≤ sizeLine := by rw [List.size_toArray, List.size_toArray]; omega
 have hlong : ¬ (!its.toArray.isEmpty && Builtin.List.listTooLong (its.toArray.size + its2.toArray.size)) = true := by
  rw [notLongL hsz, Bool.and_false]
  exact Bool.false_ne_true
 refine call_meets F.slot_list_extend ⟨_, e, rfl⟩ F.entry_list_extend (F.args_list_extend_2 _ _)
  (AutoSeq1.list_extend_list_list_0 l its.toArray n b its2.toArray n2 hlong (by rw [List.size_toArray]; omega) (by omega)) ⟨e, e2, ?_⟩
 refine ⟨.non, _, I.lset (its' := its ++ its2) hH e (by simp) (r.append r2) ?_, rfl, q⟩
 rw [List.length_append]
 omega
def rCat : R2 := fun x y H Q => ∃ l b xs zs, x = .ref l ∧ y = .ref b ∧ H l = some (.lst xs) ∧ H b = some (.lst zs) ∧ xs.length + zs.length ≤ sizeLine ∧ ∀ p, H p = none → Q (.ref p) (upd H p (.lst (xs ++ zs)))
theorem op_cat : OpR X (binaryOp .Add) rCat := by
 intro pins s σ H x y v u Q I rx ry h
 obtain ⟨l, b, xs, zs, rfl, rfl, hH, hB, hz, q⟩ := h
 cases rx
 cases ry
 obtain ⟨z, its, n, r, hl, e⟩ := I.lstM hH
 obtain ⟨z2, its2, n2, r2, hl2, e2⟩ := I.lstM hB
 refine PySem.P.add_list e e2 ?_ (by rw [List.size_toArray, List.size_toArray]; omega)
 have ea : its.toArray ++ its2.toArray = (its ++ its2).toArray := by simp
 rw [ea]
 exact ⟨.ref _, _, I.lnew (t' := s.toks) (r.append r2) (by rw [List.length_append]; omega), rfl, q _ I.fresh⟩
def rRep : R2 := fun x y H Q => ∃ l k xs, x = .ref l ∧ y = .int k ∧ H l = some (.lst xs) ∧ -(2 ^ 63) ≤ k ∧ k < 2 ^ 63 ∧ xs.length * k.toNat ≤ sizeLine ∧
 ∀ p, H p = none → Q (.ref p) (upd H p (.lst (List.replicate k.toNat xs).flatten))
theorem len_rep {α : Type} (xs : List α) (k : Nat) : (List.replicate k xs).flatten.length = k * xs.length := by
 induction k with
 | zero => simp
 | succ k ih => rw [List.replicate_succ, List.flatten_cons, List.length_append, ih, Nat.succ_mul, Nat.add_comm]
theorem op_rep : OpR X (binaryOp .Mult) rRep := by
 intro pins s σ H x y v u Q I rx ry h
 obtain ⟨l, k, xs, rfl, rfl, hH, h1, h2, hz, q⟩ := h
 cases rx
 obtain ⟨t, rfl⟩ := ry
 obtain ⟨z, its, n, r, hl, e⟩ := I.lstM hH
 have hlen : its.toArray.size * k.toNat ≤ sizeLine := by rw [List.size_toArray, ← hl]; exact hz
 have hcap : ¬ its.toArray.size * k.toNat > (2 ^ 63 - 1) / 8 := by
  have : (sizeLine : Nat) ≤ (2 ^ 63 - 1) / 8 := by decide
  omega
 have hfit : ¬ (!Builtin.List.listFitsIndex k) = true := by
  rw [fitsIndex_both h1 h2]
  exact Bool.false_ne_true
 have hlong : ¬ Builtin.List.listTooLong (its.toArray.size * k.toNat) = true := by
  rw [notLongL hlen]
  exact Bool.false_ne_true
 have hnew : List.foldl (fun x1 x2 => x1 ++ x2) #[] (List.replicate (if its.toArray.isEmpty = true then 0 else k.toNat) its.toArray) = (List.replicate k.toNat its).flatten.toArray := by
  have f0 : ∀ m : Nat, List.foldl (fun x1 x2 => x1 ++ x2) #[] (List.replicate m its.toArray) = (List.replicate m its).flatten.toArray := fun m => by
   have := foldl_rep its m []
   rw [List.nil_append] at this
   exact this
  rw [f0]
  cases its with
  | nil => simp
  | cons a r' => rw [if_neg (by simp)]
 refine wpAny_binaryOp_repeat_ref (T := "list") (U := "int") (by decide) ⟨_, e, rfl⟩ (fun s' => typeIs_int s' k t) noFill_list_mul F.fills_int_mul F.slot_int_rmul repeat_list F.slot_int_index.lookup
  (call_meets F.slot_int_rmul (typeIs_int s k t) F.entry_int_rmul (F.args_int_rmul_2 _ _) (int___rmul___int_list k t l its.toArray n)
   ⟨e, rfl, ⟨_, e, rfl⟩, call_meets F.slot_list_mul ⟨_, e, rfl⟩ F.entry_list_mul (F.args_list_mul_2 _ _) (AutoListH.list___mul___list_int_3 l its.toArray n k t hfit hcap hlong) ⟨e, ?_⟩⟩)
 rw [hnew]
 exact ⟨.ref _, _, I.lnew (t' := s.toks) (r.rep k.toNat) (by rw [len_rep, Nat.mul_comm]; exact hz), rfl, q _ I.fresh⟩
end
section
variable {prog : Program} {w : World} {A : Around} {E : Value → Shared → Prop} {s : Shared}
end
section
variable {X : Cx}
end
end L2
namespace L2
open PySem PySem.Spec PyProof.Rows
theorem Vals.ints : ∀ {ns : List Int} {us : List Value}, Vals (ns.map V.int) us → IntsAre us ns
 | [], us, h => by
  rw [List.map_nil] at h
  cases h
  exact IntsAre.nil
 | n :: ns, us, h => by
  rw [List.map_cons] at h
  cases h with
  | cons r t =>
   obtain ⟨k, rfl⟩ := r
   exact IntsAre.cons n k (Vals.ints t)
theorem vals_of_ints : ∀ {us : List Value} {ns : List Int}, IntsAre us ns → Vals (ns.map V.int) us
 | _, _, .nil => by rw [List.map_nil]; exact Paired.nil
 | _, _, .cons n t h => by rw [List.map_cons]; exact Paired.cons (show RelV (V.int n) (Value.int n t) from ⟨t, rfl⟩) (vals_of_ints h)
theorem Vals.bls : ∀ {bs : List Bool} {us : List Value}, Vals (bs.map V.bl) us → us = bs.map Value.bool
 | [], us, h => by
  rw [List.map_nil] at h
  cases h
  rfl
 | b :: bs, us, h => by
  rw [List.map_cons] at h
  cases h with
  | cons r t =>
   cases r
   rw [Vals.bls t, List.map_cons]
theorem Vals.ref1 {a : Addr} {us : List Value} (r : Vals [V.ref a] us) : us = [Value.ref a] := by
 cases r with
 | cons r t =>
  cases t
  cases r
  rfl
section
variable {prog : Program} {w : World} {A : Around} {E : Value → Shared → Prop} {s : Shared} {l : Addr} {its : List Value} {ns : List Int} {Q : Value → Shared → Prop}
theorem sum_raw (hh : A.handled = none) (hl : s.heap.IsList l its.toArray) (hi : IntsAre its ns)
  (h : ∀ h' tk t', (∀ b o, s.heap.get? b = some o → h'.get? b = some o) → Q (.int ns.sum t') { s with heap := h', toks := tk }) : wpAny (model prog w) A (call (.builtin "sum") [.ref l]) Q E s := by
 obtain ⟨xs, e⟩ := hi.allInts.items
 have hn : numsOf (intItems xs).toList = ns := by rw [← e]; exact hi.numsOf
 rw [nums_intItems] at hn
 rw [e] at hl
 refine PySem.sum_intListG hh hl fun h' tk t' hk => ?_
 have := h h' tk t' hk
 rw [preSum_eq, List.take_of_length_le (by simp), hn]; exact this
theorem max_raw (hh : A.handled = none) (hl : s.heap.IsList l its.toArray) (hi : IntsAre its ns) (hne : 0 < ns.length)
  (h : ∀ h' tk M t', (∀ b o, s.heap.get? b = some o → h'.get? b = some o) → M ∈ ns → (∀ a, a ∈ ns → a ≤ M) → Q (.int M t') { s with heap := h', toks := tk }) : wpAny (model prog w) A (call (.builtin "max") [.ref l]) Q E s := by
 obtain ⟨xs, e⟩ := hi.allInts.items
 have hn : numsOf (intItems xs).toList = ns := by rw [← e]; exact hi.numsOf
 rw [nums_intItems] at hn
 subst hn
 rw [e] at hl
 have hsz : 0 < xs.size := by simpa using hne
 refine PySem.max_intList hh hl hsz fun v h' tk hv hk => ?_
 obtain ⟨t, rfl⟩ := intItems_at hv
 obtain ⟨h1, h2⟩ := argBest_gt (numAt xs) (xs.size - 1)
 refine h h' tk _ t hk ?_ fun a ha => ?_
 ·rw [numAt_eq]; exact PySem.getD_mem (by rw [List.length_map, Array.length_toList]; omega)
 ·obtain ⟨j, hj, rfl⟩ := mem_getD ha
  rw [List.length_map, Array.length_toList] at hj
  rw [← numAt_eq]; exact h2 j (by omega)
theorem min_raw (hh : A.handled = none) (hl : s.heap.IsList l its.toArray) (hi : IntsAre its ns) (hne : 0 < ns.length)
  (h : ∀ h' tk M t', (∀ b o, s.heap.get? b = some o → h'.get? b = some o) → M ∈ ns → (∀ a, a ∈ ns → M ≤ a) → Q (.int M t') { s with heap := h', toks := tk }) : wpAny (model prog w) A (call (.builtin "min") [.ref l]) Q E s := by
 obtain ⟨xs, e⟩ := hi.allInts.items
 have hn : numsOf (intItems xs).toList = ns := by rw [← e]; exact hi.numsOf
 rw [nums_intItems] at hn
 subst hn
 rw [e] at hl
 have hsz : 0 < xs.size := by simpa using hne
 refine PySem.min_intList hh hl hsz fun v h' tk hv hk => ?_
 obtain ⟨t, rfl⟩ := intItems_at hv
 obtain ⟨h1, h2⟩ := argBest_lt (numAt xs) (xs.size - 1)
 refine h h' tk _ t hk ?_ fun a ha => ?_
 ·rw [numAt_eq]; exact PySem.getD_mem (by rw [List.length_map, Array.length_toList]; omega)
 ·obtain ⟨j, hj, rfl⟩ := mem_getD ha
  rw [List.length_map, Array.length_toList] at hj
  rw [← numAt_eq]; exact h2 j (by omega)
end
section
variable {X : Cx}
def rSum (K : PySem.W.Frag) : List V → Hp → VK → Prop := fun vs H Q => ∃ (a : Addr) (ns : List Int), vs = [V.ref a] ∧ SqL K H a (ns.map V.int) ∧ Q (.int ns.sum) H
def rMax (K : PySem.W.Frag) : List V → Hp → VK → Prop := fun vs H Q => ∃ (a : Addr) (ns : List Int), vs = [V.ref a] ∧ SqL K H a (ns.map V.int) ∧ 0 < ns.length ∧ ∀ m, m ∈ ns → (∀ y, y ∈ ns → y ≤ m) → Q (.int m) H
def rMin (K : PySem.W.Frag) : List V → Hp → VK → Prop := fun vs H Q => ∃ (a : Addr) (ns : List Int), vs = [V.ref a] ∧ SqL K H a (ns.map V.int) ∧ 0 < ns.length ∧ ∀ m, m ∈ ns → (∀ y, y ∈ ns → m ≤ y) → Q (.int m) H
theorem cr_sum (hc : X.calm = true) : CallR X (.builtin "sum") (rSum X.K) := by
 intro pins s σ H vs us Q I r h
 obtain ⟨a, ns, rfl, hs, q⟩ := h
 obtain ⟨its, rv, hl, _⟩ := I.list hs
 rw [Vals.ref1 r]
 exact sum_raw (I.ok.hd hc) hl.isList rv.ints fun h' tk t' hk => ⟨.int _, H, I.kept hk, ⟨_, rfl⟩, q⟩
theorem cr_max (hc : X.calm = true) : CallR X (.builtin "max") (rMax X.K) := by
 intro pins s σ H vs us Q I r h
 obtain ⟨a, ns, rfl, hs, hne, q⟩ := h
 obtain ⟨its, rv, hl, _⟩ := I.list hs
 rw [Vals.ref1 r]
 exact max_raw (I.ok.hd hc) hl.isList rv.ints hne fun h' tk m t' hk h1 h2 => ⟨.int _, H, I.kept hk, ⟨_, rfl⟩, q m h1 h2⟩
theorem cr_min (hc : X.calm = true) : CallR X (.builtin "min") (rMin X.K) := by
 intro pins s σ H vs us Q I r h
 obtain ⟨a, ns, rfl, hs, hne, q⟩ := h
 obtain ⟨its, rv, hl, _⟩ := I.list hs
 rw [Vals.ref1 r]
 exact min_raw (I.ok.hd hc) hl.isList rv.ints hne fun h' tk m t' hk h1 h2 => ⟨.int _, H, I.kept hk, ⟨_, rfl⟩, q m h1 h2⟩
def rSorted (K : PySem.W.Frag) : List V → Hp → VK → Prop := fun vs H Q => ∃ (a : Addr) (ns : List Int), vs = [V.ref a] ∧ SqL K H a (ns.map V.int) ∧ ns.length < 64 ∧
 ∀ (ns' : List Int) (p : Addr), ns'.Perm ns → ns'.Pairwise (· ≤ ·) → H p = none → Q (.ref p) (upd H p (.lst (ns'.map V.int)))
theorem small64 {n : Nat} (h : n < 64) : n ≤ sizeLine := by rw [sizeLine_eq]; omega
theorem cr_sorted : CallR X (.builtin "sorted") (rSorted X.K) := by
 intro pins s σ H vs us Q I r h
 obtain ⟨a, ns, rfl, hs, h64, q⟩ := h
 obtain ⟨its, rv, hl, _⟩ := I.list hs
 rw [Vals.ref1 r]
 have hi := rv.ints
 refine PyProof.Rows.sorted_ints hl.isList hi (by rw [hi.length]; exact h64) fun out ns' h1 h2 h3 => ?_
 obtain ⟨ep, he'⟩ := PyProof.Rows.sortedAll_at s.heap its out
 have hlen : (ns'.map V.int).length ≤ sizeLine := by rw [List.length_map, h2.length_eq]; exact small64 h64
 exact ⟨.ref _, upd H (s.heap.objs.size + 1) (.lst (ns'.map V.int)), I.laid (t' := s.toks) (fun _ _ => PyProof.Rows.sortedAll_old) (Nat.le_succ _) ⟨hlen, out.toList, ep, vals_of_ints h1, he'⟩, rfl, q ns' _ h2 h3 (I.hok.fresh (Nat.le_succ _))⟩
end
section
variable {X : Cx}
def rIndex (K : PySem.W.Frag) : V → List V → Hp → VK → Prop := fun x xs H Q => ∃ (a : Addr) (ys : List V) (y : V) (j : Nat) (z : V), x = V.ref a ∧ xs = [y] ∧ SqL K H a ys ∧ flatV y = true ∧ ys.all flatV = true ∧ ys[j]? = some z ∧ eqV z y = true ∧
 (∀ (m : Nat) (z' : V), m < j → ys[m]? = some z' → eqV z' y = false) ∧ Q (.int (j : Nat)) H
theorem flat_at {ys : List V} (f : ys.all flatV = true) {j : Nat} {z : V} (h : ys[j]? = some z) : flatV z = true := List.all_eq_true.mp f z (List.mem_of_getElem? h)
theorem mt_index : MtR X "list.index" (rIndex X.K) := by
 intro pins s σ H x xs v us Q I rx rxs h
 obtain ⟨a, ys, y, j, z, rfl, rfl, hs, fy, fys, hz, hzj, hno, q⟩ := h
 cases rx
 cases rxs with
 | cons ry rt =>
  rename_i uy ut
  cases rt
  obtain ⟨its, rv, ⟨⟨cls, dd, data, sl⟩, n, ho, hc, hdn, hd⟩, hlen⟩ := I.list hs
  simp only at hc hd
  subst hc hd
  obtain ⟨u, hu, ru⟩ := rv.get hz
  obtain ⟨hjl, hje⟩ := List.getElem?_eq_some_iff.mp hu
  have hvl := rv.length
  have hj : j < its.toArray.size := by simpa using hjl
  have hsl := sizeLine_eq
  refine call_meets PySem.F.slot_list_index ⟨_, ho, rfl⟩ PySem.F.entry_list_index (PySem.F.args_list_index_2 _ _)
   (SeqAt.list_indexAt a its.toArray n dd sl uy (eqU y) j hj (by omega) ?_ ?_) ⟨ho, fun u' hu' => mem_eqAt ry fy rv fys u' (by simpa using hu'), ?_⟩
  ·have e1 : its.toArray[j] = u := by simpa using hje
   rw [e1, eqU_of ru (flat_at fys hz)]
   exact hzj
  ·intro m hm hmj
   have hml : m < its.length := by simpa using hm
   have hmy : m < ys.length := by omega
   have hy' : ys[m]? = some ys[m] := List.getElem?_eq_getElem hmy
   obtain ⟨u2, hu2, ru2⟩ := rv.get hy'
   obtain ⟨_, hme⟩ := List.getElem?_eq_some_iff.mp hu2
   have e1 : its.toArray[m] = u2 := by simpa using hme
   rw [e1, eqU_of ru2 (flat_at fys hy')]
   exact hno m _ hmj hy'
  ·exact ⟨.int (j : Nat), H, I.tok _, ⟨_, rfl⟩, q⟩
end
section
variable {X : Cx}
end
theorem iter_any {prog : Program} {w : World} {A : Around} {E : Value → Shared → Prop} {s : Shared} {l : Addr} {items : Array Value} {Q : Value → Shared → Prop} (hl : s.heap.IsList l items)
  (h : ∀ s₂ : Shared, s₂ = { s with heap := s.heap.push { cls := .type "list_iterator", data := .fields #[.ref l, .int 0 0] } } →
   (s₂.heap.IsListIter s.heap.objs.size l 0 ∧ s₂.heap.IsList l items) → l ≠ s.heap.objs.size → Q (.ref s.heap.objs.size) s₂) : wpAny (model prog w) A (pyIter (.ref l)) Q E s := by
 have hlt : l < s.heap.objs.size := by obtain ⟨_, e, _⟩ := hl; exact Heap.lt_size e
 exact wpAny_pyIter_list hl (h _ rfl ⟨⟨_, Heap.get?_push_size _ rfl, rfl, rfl⟩, hl.push _⟩ (Nat.ne_of_lt hlt))
theorem truth_bools {prog : Program} {w : World} {A : Around} {bs : List Bool} {its : List Value} (e : its = bs.map Value.bool) :
  TruthOf prog w A (fun i v => its.toArray[i]? = some v) (fun i => bs.getD i false) := fun i v s Q E hv hq => by
 have hv' : its[i]? = some v := by simpa using hv
 rw [e, List.getElem?_map] at hv'
 obtain ⟨b, hb, rfl⟩ := Option.map_eq_some_iff.mp hv'
 have hg : bs.getD i false = b := by rw [List.getD_eq_getElem?_getD, hb] <;> rfl
 have hq' : Q (bs.getD i false) s := hq
 rw [hg] at hq'
 exact wpAny_truthy_bool hq'
theorem all_range : ∀ bs : List Bool, (List.range bs.length).all (fun i => bs.getD i false) = bs.all id
 | [] => rfl
 | b :: bs => by
  rw [List.length_cons, List.range_succ_eq_map, List.all_cons, List.all_map, List.all_cons, ← all_range bs]
  all_goals rfl
section
variable {X : Cx}
def rAll (K : PySem.W.Frag) : List V → Hp → VK → Prop := fun vs H Q => ∃ (a : Addr) (bs : List Bool), vs = [V.ref a] ∧ SqL K H a (bs.map V.bl) ∧ Q (.bl (bs.all id)) H
theorem cr_all (hc : X.calm = true) : CallR X (.builtin "all") (rAll X.K) := by
 intro pins s σ H vs us Q I r h
 obtain ⟨a, bs, rfl, hs, q⟩ := h
 obtain ⟨its, rv, hl, _⟩ := I.list hs
 rw [Vals.ref1 r]
 have hb := rv.bls
 refine call_all_walk (iter_any hl.isList fun s₂ e2 st hne => ?_)
 subst e2
 refine ⟨_, _, _, _, _, _, _, rfl, Walks.list (A := X.A.in1) (I.ok.hd hc) _ a hne its.toArray, st, truth_bools hb, fun h' tk hk => ?_⟩
 refine ⟨.bl _, H, I.kept fun b o eo => hk b o (fun hmem => ?_) (Heap.get?_push_of_some _ eo), ?_, q⟩
 ·rcases List.mem_cons.mp hmem with e1 | hmem
  ·exact absurd (e1 ▸ Heap.lt_size eo) (Nat.lt_irrefl _)
  ·cases hmem
 ·show Value.bool _ = Value.bool _
  rw [← all_range, hb, List.size_toArray, List.length_map]
end
mutual
inductive Dp (K : PySem.W.Frag) (H : Hp) : V → PyData → Prop
 | non : Dp K H .non .none
 | bl (b : Bool) : Dp K H (.bl b) (.bool b)
 | int (i : Int) : Dp K H (.int i) (.int i)
 | str (x : Str) : Dp K H (.str x) (.str x)
 | lst {a : Addr} {xs : List V} {ds : List PyData} : SqL K H a xs → DpAll K H xs ds → Dp K H (.ref a) (.list ds)
 | tup {a : Addr} {xs : List V} {ds : List PyData} : SqT K H a xs → DpAll K H xs ds → Dp K H (.ref a) (.tuple ds)
inductive DpAll (K : PySem.W.Frag) (H : Hp) : List V → List PyData → Prop
 | nil : DpAll K H [] []
 | cons {v : V} {vs : List V} {d : PyData} {ds : List PyData} : Dp K H v d → DpAll K H vs ds → DpAll K H (v :: vs) (d :: ds)
end
section
variable {X : Cx} {pins : List (Addr × Obj)} {σ : St} {H : Hp} {s : Shared}
mutual
theorem Dp.reads (I : Inv X pins σ H s) : ∀ (d : PyData) (v : V) (u : Value), Dp X.K H v d → RelV v u → ∃ as, Reads s.heap u d as
 | .none, _, _, h, r => by
  cases h
  cases r
  exact ⟨_, Reads.none⟩
 | .bool b, _, _, h, r => by
  cases h
  cases r
  exact ⟨_, Reads.bool b⟩
 | .int i, _, _, h, r => by
  cases h
  obtain ⟨t, rfl⟩ := r
  exact ⟨_, Reads.int i t⟩
 | .str x, _, _, h, r => by
  cases h
  obtain ⟨t, rfl⟩ := r
  exact ⟨_, Reads.str x t⟩
 | .list ds, _, _, h, r => by
  cases h with
  | lst hs ha =>
   cases r
   obtain ⟨its, rv, ⟨o, n, ho, hc, _, hd⟩, _⟩ := I.list hs
   obtain ⟨as, hr⟩ := Dp.readsAll I ds _ its ha rv
   exact ⟨_, Reads.list ho hc hd hr⟩
 | .tuple ds, _, _, h, r => by
  cases h with
  | tup hs ha =>
   cases r
   obtain ⟨its, rv, ⟨o, ho, hc, n, hd⟩, _⟩ := I.tuple hs
   obtain ⟨as, hr⟩ := Dp.readsAll I ds _ its ha rv
   exact ⟨_, Reads.tuple ho hc hd hr⟩
 | .dict _, _, _, h, _ => by cases h
theorem Dp.readsAll (I : Inv X pins σ H s) : ∀ (ds : List PyData) (vs : List V) (us : List Value), DpAll X.K H vs ds → Vals vs us → ∃ as, ReadsAll s.heap us ds as
 | [], _, _, h, r => by
  cases h
  cases r
  exact ⟨_, ReadsAll.nil⟩
 | d :: ds, _, _, h, r => by
  cases h with
  | cons h1 h2 =>
   cases r with
   | cons r1 r2 =>
    obtain ⟨as, q1⟩ := Dp.reads I d _ _ h1 r1
    obtain ⟨bs, q2⟩ := Dp.readsAll I ds _ _ h2 r2
    exact ⟨_, ReadsAll.cons q1 q2⟩
end
end
section
variable {X : Cx}
def rEqD (K : PySem.W.Frag) : R2 := fun x y H Q => ∃ d e, Dp K H x d ∧ Dp K H y e ∧ SeqAt.shaped d = true ∧ SeqAt.shaped e = true ∧ Q (.bl (PyData.eqv d e)) H
def rNeD (K : PySem.W.Frag) : R2 := fun x y H Q => ∃ d e, Dp K H x d ∧ Dp K H y e ∧ SeqAt.shaped d = true ∧ SeqAt.shaped e = true ∧ Q (.bl (!PyData.eqv d e)) H
theorem op_eqD (hu : X.A.units + 64 < cLine) : OpR X (compareOp .Eq) (rEqD X.K) := by
 intro pins s σ H x y v u Q I rx ry h
 obtain ⟨d, e, hd, he, sd, se, q⟩ := h
 obtain ⟨as, r1⟩ := Dp.reads I d x v hd rx
 obtain ⟨bs, r2⟩ := Dp.reads I e y u he ry
 exact SeqAt.compareEq_shaped r1 r2 sd se hu ⟨.bl _, H, I, rfl, q⟩
theorem op_neD (hu : X.A.units + 64 < cLine) : OpR X (compareOp .NotEq) (rNeD X.K) := by
 intro pins s σ H x y v u Q I rx ry h
 obtain ⟨d, e, hd, he, sd, se, q⟩ := h
 obtain ⟨as, r1⟩ := Dp.reads I d x v hd rx
 obtain ⟨bs, r2⟩ := Dp.reads I e y u he ry
 exact SeqAt.compareNe_shaped r1 r2 sd se hu ⟨.bl _, H, I, rfl, q⟩
end
end L2
namespace L2
open PySem PySem.Spec PyProof.Rows
abbrev CellAt (h : Heap) (c : Addr) (v : Option Value) : Prop := h.IsCell c v
def relS (scope sc : Scope) : Scope :=
 { scope with names := scope.names.map fun (n, k) => if (k == .free && sc.kind == .function && sc.names.lookup n == some .cell) then (n, .cell) else (n, k) }
def cloFrom (cells : List (Str × Addr)) : List (Str × NameKind) → List (Str × Addr) → List (Str × Addr)
 | [], acc => acc
 | (n, k) :: r, acc => if k == .free then cloFrom cells r ((n, (cells.lookup n).getD 0) :: acc) else cloFrom cells r acc
theorem closure_loop (env : Env) (f : Str × NameKind → List (Str × Addr) → Sem (ForInStep (List (Str × Addr))))
  (hf : ∀ n k c, f (n, k) c = if k == .free then (do let a ← cellOf env n; pure (.yield ((n, a) :: c))) else pure (.yield c)) :
  ∀ (names : List (Str × NameKind)) (acc : List (Str × Addr)), (∀ y ∈ names, y.2 = .free → ∃ c, env.cells.lookup y.1 = some c) → forIn names acc f = pure (cloFrom env.cells names acc)
 | [], acc, _ => by rw [List.forIn_nil]; rfl
 | (n, k) :: r, acc, h => by
  rw [List.forIn_cons, hf]
  have ih := fun acc => closure_loop env f hf r acc fun y hy => h y (List.mem_cons_of_mem _ hy)
  unfold cloFrom
  by_cases hk : (k == NameKind.free) = true
  ·rw [if_pos hk, if_pos hk]
   obtain ⟨c, hc⟩ := h (n, k) List.mem_cons_self (by simpa using hk)
   have e : cellOf env n = pure c := by unfold cellOf; rw [hc]
   rw [e]
   have e2 : (env.cells.lookup n).getD 0 = c := by rw [hc]; rfl
   rw [e2]
   exact ih _
  ·rw [if_neg hk, if_neg hk]
   exact ih _
theorem closure_ok {scope : Scope} {env : Env} (h : ∀ y ∈ scope.names, y.2 = .free → ∃ c, env.cells.lookup y.1 = some c) : closureFor scope env = pure (cloFrom env.cells scope.names []) := by
 simp only [closureFor]
 rw [closure_loop env _ (fun n k c => rfl) scope.names [] h]
 rfl
theorem mem_lookup {α : Type} : ∀ {l : List (Str × α)} {n : Str} {c : α}, (n, c) ∈ l → ∃ c', l.lookup n = some c'
 | (k, v) :: r, n, c, h => by
  rw [List.lookup_cons]
  cases hb : n == k with
  | true => exact ⟨_, rfl⟩
  | false =>
   rcases List.mem_cons.mp h with e | h
   ·cases e; simp at hb
   ·exact mem_lookup h
theorem cloFrom_mem {cells : List (Str × Addr)} : ∀ {names : List (Str × NameKind)} {acc : List (Str × Addr)} {n : Str} {c : Addr}, (n, c) ∈ cloFrom cells names acc → (n, c) ∈ acc ∨ ((n, .free) ∈ names ∧ c = (cells.lookup n).getD 0)
 | [], _, _, _, h => .inl h
 | (m, k) :: r, acc, n, c, h => by
  unfold cloFrom at h
  split at h
  ·rename_i hk
   have hk : k = .free := by simpa using hk
   rcases cloFrom_mem h with h | ⟨h1, h2⟩
   ·rcases List.mem_cons.mp h with e | h
    ·cases e; exact .inr ⟨hk ▸ List.mem_cons_self, rfl⟩
    ·exact .inl h
   ·exact .inr ⟨List.mem_cons_of_mem _ h1, h2⟩
  ·rcases cloFrom_mem h with h | ⟨h1, h2⟩
   ·exact .inl h
   ·exact .inr ⟨List.mem_cons_of_mem _ h1, h2⟩
theorem cloFrom_acc {cells : List (Str × Addr)} : ∀ {names : List (Str × NameKind)} {acc : List (Str × Addr)} {p : Str × Addr}, p ∈ acc → p ∈ cloFrom cells names acc
 | [], _, _, h => h
 | (m, k) :: r, acc, p, h => by
  unfold cloFrom
  split
  ·exact cloFrom_acc (List.mem_cons_of_mem _ h)
  ·exact cloFrom_acc h
theorem cloFrom_has {cells : List (Str × Addr)} : ∀ {names : List (Str × NameKind)} {acc : List (Str × Addr)} {n : Str}, (n, .free) ∈ names → (n, (cells.lookup n).getD 0) ∈ cloFrom cells names acc
 | (m, k) :: r, acc, n, h => by
  unfold cloFrom
  rcases List.mem_cons.mp h with e | h
  ·cases e
   exact cloFrom_acc List.mem_cons_self
  ·split
   ·exact cloFrom_has h
   ·exact cloFrom_has h
theorem cells_mem : ∀ {names : List (Str × NameKind)} {h : Heap} {acc : List (Str × Addr)} {x : Str} {c : Addr}, (x, c) ∈ cellsFrom h.objs.size names acc →
  (x, c) ∈ acc ∨ ((x, .cell) ∈ names ∧ h.objs.size ≤ c ∧ CellAt (pushCells h names) c none)
 | [], _, _, _, _, h => .inl h
 | (n, k) :: r, h, acc, x, c, hm => by
  unfold cellsFrom at hm
  unfold pushCells
  split at hm
  ·rename_i hk
   rw [if_pos hk]
   have hk : k = .cell := by simpa using hk
   rw [← Heap.size_push h { cls := .type "cell", data := .cell none }] at hm
   rcases cells_mem hm with hm | ⟨h1, h2, h3⟩
   ·rcases List.mem_cons.mp hm with e | hm
    ·cases e
     exact .inr ⟨hk ▸ List.mem_cons_self, Nat.le_refl _, _, pushCells_keeps r _ _ _ (Heap.get?_push_size _ rfl), rfl⟩
    ·exact .inl hm
   ·rw [Heap.size_push] at h2
    exact .inr ⟨List.mem_cons_of_mem _ h1, Nat.le_of_succ_le h2, h3⟩
  ·rename_i hk
   rw [if_neg hk]
   rcases cells_mem hm with hm | ⟨h1, h2, h3⟩
   ·exact .inl hm
   ·exact .inr ⟨List.mem_cons_of_mem _ h1, h2, h3⟩
theorem cells_acc : ∀ {names : List (Str × NameKind)} {n : Nat} {acc : List (Str × Addr)} {p : Str × Addr}, p ∈ acc → p ∈ cellsFrom n names acc
 | [], _, _, _, h => h
 | (m, k) :: r, n, acc, p, h => by
  unfold cellsFrom
  split
  ·exact cells_acc (List.mem_cons_of_mem _ h)
  ·exact cells_acc h
theorem cells_has : ∀ {names : List (Str × NameKind)} {n : Nat} {acc : List (Str × Addr)} {x : Str}, (x, .cell) ∈ names → ∃ c, (x, c) ∈ cellsFrom n names acc
 | (m, k) :: r, n, acc, x, h => by
  unfold cellsFrom
  rcases List.mem_cons.mp h with e | h
  ·cases e
   exact ⟨n, cells_acc List.mem_cons_self⟩
  ·split
   ·exact cells_has h
   ·exact cells_has h
theorem cells_inj : ∀ {names : List (Str × NameKind)} {h : Heap} {acc : List (Str × Addr)} {x y : Str} {c : Addr}, (∀ p ∈ acc, p.2 < h.objs.size) → (∀ x y c, (x, c) ∈ acc → (y, c) ∈ acc → x = y) →
  (x, c) ∈ cellsFrom h.objs.size names acc → (y, c) ∈ cellsFrom h.objs.size names acc → x = y
 | [], _, _, _, _, _, _, hi, h1, h2 => hi _ _ _ h1 h2
 | (n, k) :: r, h, acc, x, y, c, hl, hi, h1, h2 => by
  unfold cellsFrom at h1 h2
  split at h1
  ·rename_i hk
   rw [if_pos hk] at h2
   rw [← Heap.size_push h { cls := .type "cell", data := .cell none }] at h1 h2
   refine cells_inj (h := h.push _) (fun p hp => ?_) (fun x y c a b => ?_) h1 h2
   ·rw [Heap.size_push]
    rcases List.mem_cons.mp hp with rfl | hp
    ·exact Nat.lt_succ_self _
    ·exact Nat.lt_succ_of_lt (hl p hp)
   ·rcases List.mem_cons.mp a with e | a <;> rcases List.mem_cons.mp b with e' | b
    ·cases e; cases e'; rfl
    ·cases e; exact absurd (hl _ b) (Nat.lt_irrefl _)
    ·cases e'; exact absurd (hl _ a) (Nat.lt_irrefl _)
    ·exact hi _ _ _ a b
  ·rename_i hk
   rw [if_neg hk] at h2
   exact cells_inj hl hi h1 h2
theorem newEnv_comp {M : Model} {A : Around} {E : Value → Shared → Prop} {s : Shared} {scope : Scope} {globals : Addr} {closure : List (Str × Addr)} {qual : Str} {func : Option Addr} {code : Value} {around : Env} {builtins : Addr} {Q : Env → Shared → Prop}
  (h : Q (newEnv scope s.heap.objs.size globals (cellsFrom (s.heap.objs.size + 1) scope.names closure) qual func code (some around) builtins)
   { s with heap := pushCells (s.heap.push { cls := .type "dict", data := .dict #[] }) scope.names }) :
  wpAny M A (newFunctionEnv scope globals closure [] qual func code (some around) builtins) Q E s := by
 simp only [newFunctionEnv, Option.isSome_some, if_true]
 refine wpAny_bind (wpAny_alloc ?_)
 refine wpAny_bind (wpAny_layCells _ (fun n k c => rfl) scope.names closure _ _ ?_)
 rw [show ({ s with heap := s.heap.push { cls := .type "dict", data := .dict #[] } } : Shared).heap.objs.size = s.heap.objs.size + 1 from Heap.size_push ..]
 rw [List.forIn_nil]
 exact wpAny_bind (wpAny_pure (wpAny_pure h))
theorem lookup_relS {sc : Scope} : ∀ {names : List (Str × NameKind)} {x : Str} {k : NameKind},
  (names.map fun (n, k) => if (k == NameKind.free && sc.kind == .function && sc.names.lookup n == some .cell) then (n, NameKind.cell) else (n, k)).lookup x = some k →
  ∃ k', names.lookup x = some k' ∧ (k = k' ∨ (k' = .free ∧ k = .cell))
 | [], _, _, h => by simp at h
 | (n, k₀) :: r, x, k, h => by
  have ih := @lookup_relS sc r x k
  have h' : List.lookup x ((if (k₀ == NameKind.free && sc.kind == .function && sc.names.lookup n == some .cell) = true then (n, NameKind.cell) else (n, k₀)) :: (r.map _)) = some k := h
  cases hx : x == n with
  | true =>
   simp only [List.lookup_cons, hx]
   by_cases hc : (k₀ == NameKind.free && sc.kind == .function && sc.names.lookup n == some .cell) = true
   ·rw [if_pos hc] at h'
    simp only [List.lookup_cons, hx] at h'
    cases h'
    simp only [Bool.and_eq_true, beq_iff_eq] at hc
    exact ⟨k₀, rfl, .inr ⟨hc.1.1, rfl⟩⟩
   ·rw [if_neg hc] at h'
    simp only [List.lookup_cons, hx] at h'
    cases h'
    exact ⟨_, rfl, .inl rfl⟩
  | false =>
   simp only [List.lookup_cons, hx]
   by_cases hc : (k₀ == NameKind.free && sc.kind == .function && sc.names.lookup n == some .cell) = true
   ·rw [if_pos hc] at h'
    simp only [List.lookup_cons, hx] at h'
    exact ih h'
   ·rw [if_neg hc] at h'
    simp only [List.lookup_cons, hx] at h'
    exact ih h'
structure BlkOk (N : List Str) (sc scope : Scope) (own : List (Str × Nat)) : Prop where
 kind : scope.kind = .function
 uniq : ∀ y ∈ scope.names, scope.names.lookup y.1 = some y.2
 ix : ∀ p ∈ own, N[p.2]? = some p.1
 free : ∀ y ∈ scope.names, y.2 = .free → sc.names.lookup y.1 = some .cell ∨ sc.names.lookup y.1 = some .free
 own : ∀ y ∈ scope.names, y.2 = .local ∨ y.2 = .cell → y.1 ∈ own.map (·.1) ∨ y.1 ∉ N
def wipe (σ : St) : List Nat → St
 | [] => σ
 | v :: vs => (wipe σ vs).set v none
theorem wipe_length (σ : St) : ∀ vs : List Nat, (wipe σ vs).length = σ.length
 | [] => rfl
 | v :: vs => by unfold wipe; rw [List.length_set, wipe_length σ vs]
theorem wipe_some {σ : St} {i : Nat} {x : V} : ∀ {vs : List Nat}, (wipe σ vs)[i]? = some (some x) → σ[i]? = some (some x) ∧ i ∉ vs
 | [], h => ⟨h, by simp⟩
 | v :: vs, h => by
  unfold wipe at h
  by_cases hi : v = i
  ·subst hi
   by_cases hv : v < (wipe σ vs).length
   ·rw [List.getElem?_set_self hv] at h; cases h
   ·rw [List.getElem?_eq_none (by simpa using hv)] at h; cases h
  ·rw [List.getElem?_set_ne hi] at h
   obtain ⟨h1, h2⟩ := wipe_some h
   exact ⟨h1, by simp only [List.mem_cons, not_or]; exact ⟨fun e => hi e.symm, h2⟩⟩
abbrev Cx.blk (X : Cx) (s : Shared) (H : Hp) (scope : Scope) (cenv : Env) (fp : List Addr) : Cx := { X with s_0 := s, H_0 := H, env := cenv, outer := X.stack, ex := fp, fn := fun x => scope.names.lookup x == some .cell, pn := [], xe := fun _ _ => False }
section
variable {X : Cx} {pins : List (Addr × Obj)} {σ : St} {H : Hp} {s : Shared}
theorem block_start {scope : Scope} {own : List (Str × Nat)} {fp : List Addr} (I : Inv X pins σ H s) (ok : BlkOk X.N X.env.scope scope own) (hN : X.N.Nodup) (hfp : ∀ b ∈ fp, FpOk X pins H b ∧ b < s.heap.objs.size) :
  Inv (X.blk s H scope (compEnvC scope (cellsFrom (s.heap.objs.size + 1) scope.names (cloFrom X.env.cells scope.names [])) s.heap.objs.size X.env) fp) [] (wipe σ (own.map (·.2))) H { s with heap := pushCells (s.heap.push { cls := .type "dict", data := .dict #[] }) scope.names } := by
 have hfree : ∀ y ∈ scope.names, y.2 = .free → ∃ c, X.env.cells.lookup y.1 = some c := fun y hy e => by
  rcases ok.free y hy e with k | k
  ·exact I.ok.has _ (.inl k)
  ·exact I.ok.has _ (.inr k)
 generalize hcenv : compEnvC scope (cellsFrom (s.heap.objs.size + 1) scope.names (cloFrom X.env.cells scope.names [])) s.heap.objs.size X.env = cenv
 have kp : ∀ b o, s.heap.get? b = some o → (pushCells (s.heap.push { cls := .type "dict", data := .dict #[] }) scope.names).get? b = some o := fun b o e => pushCells_keeps _ _ _ _ (Heap.get?_push_of_some _ e)
 have hL : cenv.locals = s.heap.objs.size := by rw [← hcenv]; rfl
 have hcl : cenv.cells = cellsFrom (s.heap.objs.size + 1) scope.names (cloFrom X.env.cells scope.names []) := by rw [← hcenv]; rfl
 have hsc : cenv.scope = relS scope X.env.scope := by rw [← hcenv]; rfl
 rw [← Heap.size_push s.heap { cls := .type "dict", data := .dict #[] }] at hcl
 have cm : ∀ {y c}, (y, c) ∈ cloFrom X.env.cells scope.names [] → X.env.cells.lookup y = some c ∧ c < s.heap.objs.size := fun {y c} hm => by
  rcases cloFrom_mem hm with hm | ⟨h1, rfl⟩
  ·cases hm
  ·obtain ⟨c, hc⟩ := hfree _ h1 rfl
   rw [hc]
   obtain ⟨w, z⟩ := I.cell _ _ hc
   exact ⟨rfl, z.lt⟩
 have mem : ∀ {y c}, cenv.cells.lookup y = some c → (X.env.cells.lookup y = some c ∧ c < s.heap.objs.size) ∨ (s.heap.objs.size + 1 ≤ c ∧ CellAt (pushCells (s.heap.push { cls := .type "dict", data := .dict #[] }) scope.names) c none) := fun {y c} e => by
  rw [hcl] at e
  rcases cells_mem (PySem.mem_of_lookup e) with hm | ⟨_, h2, h3⟩
  ·exact .inl (cm hm)
  ·rw [Heap.size_push] at h2; exact .inr ⟨h2, h3⟩
 have look : ∀ {y}, scope.names.lookup y = some .free → ∃ c, cenv.cells.lookup y = some c ∧ X.env.cells.lookup y = some c := fun {y} hl => by
  have hy : (y, NameKind.free) ∈ scope.names := PySem.mem_of_lookup hl
  obtain ⟨c', e'⟩ := mem_lookup (cells_acc (names := scope.names) (n := (s.heap.push { cls := .type "dict", data := .dict #[] }).objs.size) (cloFrom_has (cells := X.env.cells) (acc := []) hy))
  rw [← hcl] at e'
  refine ⟨c', e', ?_⟩
  rw [hcl] at e'
  rcases cells_mem (PySem.mem_of_lookup e') with hm | ⟨h1, _, _⟩
  ·exact (cm hm).1
  ·have := ok.uniq _ h1
   rw [hl] at this; cases this
 have okB : (X.blk s H scope cenv fp).Ok := by
  refine ⟨I.ok.mod, by show cenv.scope.kind = _; rw [hsc]; exact ok.kind, by show cenv.globals = _; rw [← hcenv]; exact I.ok.glob, by show cenv.builtins = _; rw [← hcenv]; exact I.ok.blt, by show s.heap.objs.size ≤ cenv.locals; rw [hL]; exact Nat.le_refl _,
   fun y z c e1 e2 => ?_, fun y hy => ?_, fun y c z e => ?_, I.ok.hd, I.ok.frames, .inl rfl, fun b hb => ⟨?_, fun y c e z => ?_⟩, I.bs, Nat.le_trans I.ok.bsz I.sz, fun b o e hb => ?_, fun b hb z => ?_, I.stack, I.stkFree⟩
  ·have e1 : cenv.cells.lookup y = some c := e1
   have e2 : cenv.cells.lookup z = some c := e2
   rw [hcl] at e1 e2
   refine cells_inj (fun p hp => ?_) (fun y z c a b => I.ok.inj y z c (cm a).1 (cm b).1) (PySem.mem_of_lookup e1) (PySem.mem_of_lookup e2)
   rw [Heap.size_push]
   exact Nat.lt_succ_of_lt (cm (y := p.1) (c := p.2) hp).2
  ·show ∃ c, cenv.cells.lookup y = some c
   have key : ∀ k, cenv.kindOf y = some k → (k = .cell ∨ k = .free) → ∃ c, cenv.cells.lookup y = some c := fun k hk hk' => by
    unfold Env.kindOf at hk
    rw [hsc] at hk
    obtain ⟨k', e, r⟩ := lookup_relS hk
    have : k' = .cell ∨ k' = .free := by
     rcases r with rfl | ⟨rfl, _⟩
     ·exact hk'
     ·exact .inr rfl
    rcases this with rfl | rfl
    ·obtain ⟨c, hm⟩ := cells_has (n := (s.heap.push { cls := .type "dict", data := .dict #[] }).objs.size) (acc := cloFrom X.env.cells scope.names []) (PySem.mem_of_lookup e)
     obtain ⟨c', e'⟩ := mem_lookup hm
     exact ⟨c', by rw [hcl]; exact e'⟩
    ·obtain ⟨c, h1, _⟩ := look e
     exact ⟨c, h1⟩
   rcases hy with hy | hy
   ·exact key _ hy (.inl rfl)
   ·exact key _ hy (.inr rfl)
  ·have z : (scope.names.lookup y == some NameKind.cell) = true := z
   have z : scope.names.lookup y = some .cell := by simpa using z
   have e : cenv.cells.lookup y = some c := e
   rw [hcl] at e
   rcases cells_mem (PySem.mem_of_lookup e) with hm | ⟨_, h2, _⟩
   ·rcases cloFrom_mem hm with hm | ⟨h1, _⟩
    ·cases hm
    ·have q := ok.uniq _ h1
     rw [z] at q; cases q
   ·rw [Heap.size_push] at h2
    exact Nat.le_of_succ_le h2
  ·show b ≠ cenv.locals
   rw [hL]; exact Nat.ne_of_lt (hfp b hb).2
  ·have e : cenv.cells.lookup y = some c := e
   rcases mem e with ⟨h1, _⟩ | ⟨h1, _⟩
   ·exact (hfp b hb).1.2.2.2.2.1 y c h1 z
   ·have h2 : s.heap.objs.size + 1 ≤ b := by rw [← z]; exact h1
    exact absurd (Nat.lt_of_lt_of_le (hfp b hb).2 (Nat.le_of_succ_le h2)) (Nat.lt_irrefl _)
  ·rcases (hfp b hb).1.2.2.2.1 with z | z
   ·exact I.ok.noex b o e z
   ·exact absurd (Nat.lt_of_lt_of_le (Heap.lt_size e) (Nat.le_trans I.ok.bsz z)) (Nat.lt_irrefl _)
  ·rcases List.mem_cons.mp (I.stkSub b z) with z | z
   ·exact (hfp b hb).1.2.1 z
   ·exact (hfp b hb).1.2.2.1 z
 refine ⟨okB, rfl, I.bare, Un.kept kp, ⟨fun _ => none, ?_, fun i y av e1 e2 e3 => ?_⟩, fun y c e => ?_, ?_, fun y c e => ?_, fun p hp => ?_, I.hok.kept kp, by rw [wipe_length]; exact I.len⟩
 ·show Heap.Ns _ cenv.locals _
  rw [hL]
  exact Heap.Ns.keeps (Heap.Ns.new ..) fun b o e => pushCells_keeps _ _ _ _ e
 ·obtain ⟨e2, hne⟩ := wipe_some e2
  have hfr : scope.names.lookup y = some .free ∧ (cenv.kindOf y = some .cell ∨ cenv.kindOf y = some .free) := by
   have key : ∀ k, cenv.scope.names.lookup y = some k → k = .local ∨ k = .cell ∨ k = .free → scope.names.lookup y = some .free ∧ (cenv.kindOf y = some .cell ∨ cenv.kindOf y = some .free) := fun k hk hk' => by
    have hk0 := hk
    rw [hsc] at hk
    obtain ⟨k', e, r⟩ := lookup_relS hk
    have no : ¬ (k' = .local ∨ k' = .cell) := fun hh => by
     rcases ok.own _ (PySem.mem_of_lookup e) hh with e' | e'
     ·obtain ⟨p, hp, hpy⟩ := List.mem_map.mp e'
      have e3 := ok.ix p hp
      have : p.1 = y := hpy
      rw [this] at e3
      exact hne (List.mem_map.mpr ⟨p, hp, nodup_ix hN e3 e1⟩)
     ·exact e' (List.mem_of_getElem? e1)
    rcases r with rfl | ⟨rfl, rfl⟩
    ·rcases hk' with rfl | rfl | rfl
     ·exact absurd (.inl rfl) no
     ·exact absurd (.inr rfl) no
     ·exact ⟨e, .inr hk0⟩
    ·exact ⟨e, .inl hk0⟩
   have e3 : Vis cenv.scope y := e3
   rcases e3 with e3 | e3 | e3
   ·exact key _ e3 (.inl rfl)
   ·exact key _ e3 (.inr (.inl rfl))
   ·exact key _ e3 (.inr (.inr rfl))
  obtain ⟨m, hn, hl⟩ := I.loc
  have hvis : Vis X.env.scope y := (ok.free _ (PySem.mem_of_lookup hfr.1) rfl).elim (fun k => .inr (.inl k)) (fun k => .inr (.inr k))
  obtain ⟨w, r, q⟩ := hl i y av e1 e2 hvis
  refine ⟨w, r, .inr ⟨hfr.2, ?_⟩⟩
  obtain ⟨c, h1, h2⟩ := look hfr.1
  rcases q with ⟨k, _⟩ | ⟨_, c', e', z⟩
  ·have k : X.env.scope.names.lookup y = some .local := k
   rcases ok.free _ (PySem.mem_of_lookup hfr.1) rfl with k' | k' <;> rw [show X.env.scope.names.lookup y = _ from k'] at k <;> cases k
  ·rw [h2] at e'; cases e'
   exact ⟨c, h1, z.keeps kp⟩
 ·have e : cenv.cells.lookup y = some c := e
  rcases mem e with ⟨h1, _⟩ | ⟨_, z⟩
  ·obtain ⟨w, z⟩ := I.cell y c h1
   exact ⟨w, z.keeps kp⟩
  ·exact ⟨_, z⟩
 ·show H cenv.locals = none
  rw [hL]; exact I.hok.fresh (Nat.le_refl _)
 ·have e : cenv.cells.lookup y = some c := e
  rcases mem e with ⟨h1, _⟩ | ⟨h1, _⟩
  ·exact I.freeC y c h1
  ·exact I.hok.fresh (Nat.le_of_succ_le h1)
 ·exact absurd (show p ∈ ([] : List (Addr × Obj)) ++ [] from hp) (by simp)
theorem app_ok {E : Value → Shared → Prop} {D : Addr} {xs : List V} {y : V} {v : Value} {Q : Value → Shared → Prop} (I : Inv X pins σ H s) (hD : H D = some (.lst xs)) (hz : xs.length < sizeLine) (r : RelV y v)
  (h : ∀ s', Inv X pins σ (upd H D (.lst (xs ++ [y]))) s' → Q .none s') : wpAny (model X.prog X.w) X.A (call (.builtin "list.append") [.ref D, v]) Q E s := by
 obtain ⟨hz', its, n, ri, e⟩ := I.hok D _ hD
 have hl := ri.length
 refine append_at (hsz := by rw [List.size_toArray]; omega) e fun h' sb ho' => ?_
 refine h { s with heap := h' } (I.write (t' := s.toks) (by rw [hD]; trivial) (.inl rfl) (fun b u hb q => (sb.2 b hb).trans q) ⟨_, ho'⟩ ⟨by rw [List.length_append]; exact hz, its ++ [v], n + 1, ri.append (.cons r .nil), ?_⟩)
 rw [ho']
 simp
def PTs (X : Cx) (ifs : List Expr) (t : TT) : Prop :=
 ∀ (pins : List (Addr × Obj)) (s : Shared) (σ : St) (H : Hp) (Q : Bool → Hp → Prop), Inv X pins σ H s → t σ H Q →
  wpAny (model X.prog X.w) X.A (forIn ifs true fun c r => if r = true then do let ok ← isTrue c X.env (eval c X.env); pure (ForInStep.yield ok) else pure (ForInStep.yield r)) (TP X pins σ Q) X.xe s
def tYes : TT := fun _ H Q => Q true H
theorem pts_nil : PTs X [] tYes := fun _ _ _ H _ I h => wpAny_tests_nil ⟨H, I, h⟩
theorem pts_one {c : Expr} {t : TT} (h : PT X c t) : PTs X [c] t := fun pins s σ H Q I hw => wpAny_tests_one (h pins s σ H Q I hw)
end
theorem thnF {α : Type} {t : Sem α} {Q Q' : α → Shared → Prop} {M : Model} {A : Around} {E : Value → Shared → Prop} {s : Shared} (h : wpAny M A t Q (fun _ _ => False) s) (hQ : ∀ a s, Q a s → Q' a s) : wpAny M A t Q' E s := wpAny_mono h hQ fun _ _ z => False.elim z
theorem compLoop_any {prog : Program} {w : World} {A : Around} {R : Result → Shared → Prop} {s : Shared} {elt target iter : Expr} {ifs : List Expr} {scope : Scope} {pos : Pos} {it acc : Value} {env : Env} (I : Nat → Shared → Prop)
  (turn : ∀ n s, I n s → wpAny (model prog w) A (pyNext it) (fun r s₁ => match r with
   | none => R (.ok .next) s₁
   | some v => wpAny (model prog w) A (letOwnedTupleGo target it v) (fun _ s₁' => wpAny (model prog w) A (assign target env v) (fun _ s₂ =>
     wpAny (model prog w) A (forIn ifs true fun c r => if r = true then do let ok ← isTrue c env (eval c env); pure (ForInStep.yield ok) else pure (ForInStep.yield r)) (fun ok s₃ =>
      if ok = true then wpAny (model prog w) A (eval elt env) (fun x s₄ =>
       wpAny (model prog w) A (call (.builtin "list.append") [acc, x]) (fun _ s₅ => ∃ m, m < n ∧ I m s₅) (notedBy (model prog w) A env fun e s' => R (.error e) s') s₄) (notedBy (model prog w) A env fun e s' => R (.error e) s') s₃
      else ∃ m, m < n ∧ I m s₃) (notedBy (model prog w) A env fun e s' => R (.error e) s') s₂) (notedBy (model prog w) A env fun e s' => R (.error e) s') s₁') (notedBy (model prog w) A env fun e s' => R (.error e) s') s₁) (notedBy (model prog w) A env fun e s' => R (.error e) s') s)
  (n : Nat) (h : I n s) :
  codeAny (model prog w) A (.compLoop (.ListComp elt [⟨target, iter, ifs, 0⟩] scope pos) 0 it acc env) R s := by
 refine codeAny_loop rfl I (fun n s hI => ?_) n h
 show wpAny _ A ((compTurn (.ListComp elt [⟨target, iter, ifs, 0⟩] scope pos) 0 it acc env).onRaise (fun x => do noteFrame x env; theTreesLotGoes x)) _ _ s
 refine wpAny_noted ?_
 rw [compTurn_list]
 refine wpAny_bind (wpAny_standAt (wpAny_bind (wpAny_mono (turn n s hI) (fun r s₁ h₁ => ?_) fun _ _ h' => h')))
 cases r with
 | none => exact wpAny_pure h₁
 | some v =>
  refine wpAny_bind (wpAny_mono h₁ (fun _ s₁' h₁' => ?_) fun _ _ h' => h')
  refine wpAny_bind (wpAny_mono h₁' (fun _ s₂ h₂ => wpAny_bind (wpAny_mono h₂ (fun ok s₃ h₃ => ?_) fun _ _ h' => h')) fun _ _ h' => h')
  cases ok with
  | false => exact wpAny_pure ⟨rfl, h₃⟩
  | true =>
   exact wpAny_bind (wpAny_bind (wpAny_mono h₃ (fun x s₄ h₄ => wpAny_bind (wpAny_mono h₄ (fun _ s₅ h₅ => wpAny_pure (wpAny_pure ⟨rfl, h₅⟩)) fun _ _ h' => h')) fun _ _ h' => h'))
section
variable {X : Cx}
def tLc (wi : TI) (g : TG) (tt : TT) (te : TE) (vs : List Nat) : TE := fun σ H Q => wi σ H fun J H1 => ∀ D, H1 D = none → ∃ W : Nat → Nat → Hp → Prop, (∃ m, W 0 m (upd H1 D (.lst []))) ∧ ∀ i m H, W i m H →
 (J.stop i H ∧ Q (.ref D) H) ∨ (J.go i H ∧ ∃ Nx : Hp → Prop, (∀ H', Nx H' → ∃ m', m' < m ∧ W (i + 1) m' H') ∧ ∀ x H', J.yld i H x H' → g x (wipe σ vs) H' fun σ2 H2 => wipe σ2 vs = wipe σ vs ∧ tt σ2 H2 fun b H3 =>
  if b = true then te σ2 H3 fun y H4 => ∃ acc, H4 D = some (.lst acc) ∧ acc.length < sizeLine ∧ Nx (upd H4 D (.lst (acc ++ [y]))) else Nx H3)
theorem lc_core {pins : List (Addr × Obj)} {s : Shared} {σ : St} {H : Hp} {Q : VK} {elt tg iter : Expr} {ifs : List Expr} {scope : Scope} {own : List (Str × Nat)} {pos pos' : Pos} {wi : TI} {g : TG} {tt : TT} {te : TE} {use : Option (Value → Sem Unit)} {Qf : Value → Shared → Prop}
  (hc : X.calm = true) (hN : X.N.Nodup) (I : Inv X pins σ H s) (hi : PI X tg iter wi) (ok : BlkOk X.N X.env.scope scope own)
  (hg : ∀ (s : Shared) (H : Hp) (C : Addr) (cl : List (Str × Addr)) (fp : List Addr), PG (X.blk s H scope (compEnvC scope cl C X.env) fp) tg g) (ht : ∀ (s : Shared) (H : Hp) (C : Addr) (cl : List (Str × Addr)) (fp : List Addr), PTs (X.blk s H scope (compEnvC scope cl C X.env) fp) ifs tt)
  (he : ∀ (s : Shared) (H : Hp) (C : Addr) (cl : List (Str × Addr)) (fp : List Addr), PE (X.blk s H scope (compEnvC scope cl C X.env) fp) elt te) (hs : ∀ x, foldedSetIterable iter X.env x = pure x)
  (h : tLc wi g tt te (own.map (·.2)) σ H Q)
  (hRR : ∀ D C s' m H', Inv X pins σ H' s' → Q (.ref D) H' → s'.heap.Ns C m → FpOk X pins H' C → compPost (model X.prog X.w) X.A X.xe use Qf (.ref D) C (.ok .next) s') :
  wpAny (model X.prog X.w) X.A (comprehension (.ListComp elt [⟨tg, iter, ifs, 0⟩] scope pos) scope X.env pos' (newList []) false (eval iter X.env) use) Qf X.xe s := by
 have hfree : ∀ y ∈ scope.names, y.2 = .free → ∃ c, X.env.cells.lookup y.1 = some c := fun y hy e => by
  rcases ok.free y hy e with k | k
  ·exact I.ok.has _ (.inl k)
  ·exact I.ok.has _ (.inr k)
 refine wpAny_comprehension_free (use := use) rfl hs (closure_ok hfree) ok.kind (fun y hy e => by rw [ok.uniq y hy, e])
  (thn (hi pins s σ H _ I h) fun xv s1 hx => thn hx fun itv s2 h2 => ?_)
 obtain ⟨it, fp, tn, J, H2, e, I2, T, st2, f2, q⟩ := h2
 subst e
 refine wpAny_newObj_type (newEnv_comp ?_) (by show 0 ≤ sizeLine; decide)
 generalize hD : s2.heap.objs.size = D
 have hDn : H2 D = none := I2.hok.fresh (Nat.le_of_eq hD)
 obtain ⟨W, ⟨m0, w0⟩, turn⟩ := q D hDn
 -- the new list
 generalize hs3 : ({ s2 with heap := s2.heap.push { cls := .type "list", data := .seq ([] : List Value).toArray } } : Shared) = s3
 have I3 : Inv X pins σ (upd H2 D (.lst [])) s3 := by
  rw [← hs3]
  refine I2.laid (t' := s2.toks) (fun b o e => Heap.get?_push_of_some _ e) (Nat.le_of_eq hD) ⟨Nat.zero_le _, [], 0, .nil, ?_⟩
  rw [← hD]
  exact Heap.get?_push_size _ rfl
 have h3 : s3.heap = s2.heap.push { cls := .type "list", data := .seq ([] : List Value).toArray } := by rw [← hs3]
 have sz : ∀ b ∈ fp, b < s2.heap.objs.size := fun b hb => by
  obtain ⟨o, e, _⟩ := T.obj _ _ st2 b hb
  exact Heap.lt_size e
 have f3 : ∀ b ∈ fp, FpOk X pins (upd H2 D (.lst [])) b ∧ b < s3.heap.objs.size := fun b hb => by
  have hlt := sz b hb
  refine ⟨⟨?_, (f2 b hb).2⟩, by rw [h3, Heap.size_push]; exact Nat.lt_succ_of_lt hlt⟩
  rw [upd_ne (by rw [← hD]; exact Nat.ne_of_lt hlt)]
  exact (f2 b hb).1
 have st3 : tn 0 s3.heap := T.keep _ _ _ st2 fun b _ o e => by rw [h3]; exact Heap.get?_push_of_some _ e
 have I4 := block_start I3 ok hN f3
 have pg := hg s3 (upd H2 D (.lst [])) s3.heap.objs.size (cellsFrom (s3.heap.objs.size + 1) scope.names (cloFrom X.env.cells scope.names [])) fp
 have pt := ht s3 (upd H2 D (.lst [])) s3.heap.objs.size (cellsFrom (s3.heap.objs.size + 1) scope.names (cloFrom X.env.cells scope.names [])) fp
 have pe := he s3 (upd H2 D (.lst [])) s3.heap.objs.size (cellsFrom (s3.heap.objs.size + 1) scope.names (cloFrom X.env.cells scope.names [])) fp
 show codeAny _ _ (.compStart (.ListComp elt [⟨tg, iter, ifs, 0⟩] scope pos) 0 (.ref it) (.ref D) (compEnvC scope (cellsFrom (s3.heap.objs.size + 1) scope.names (cloFrom X.env.cells scope.names [])) s3.heap.objs.size X.env)) (compPost (model X.prog X.w) X.A X.xe use Qf (.ref D) s3.heap.objs.size) { s3 with heap := pushCells (s3.heap.push { cls := .type "dict", data := .dict #[] }) scope.names }
 have nfp : ∀ b ∈ fp, (upd H2 D (.lst [])) b = none := fun b hb => (f3 b hb).1.1
 generalize hce : compEnvC scope (cellsFrom (s3.heap.objs.size + 1) scope.names (cloFrom X.env.cells scope.names [])) s3.heap.objs.size X.env = ce at I4 pg pt pe ⊢
 have cL : ce.locals = s3.heap.objs.size := by subst hce; rfl
 generalize hH3 : upd H2 D (.lst []) = H3 at I3 I4 pg pt pe w0 nfp f3
 generalize hs4 : ({ s3 with heap := pushCells (s3.heap.push { cls := .type "dict", data := .dict #[] }) scope.names } : Shared) = s4 at I4 ⊢
 have st4 : tn 0 s4.heap := T.keep _ _ _ st3 fun b _ o e => by rw [← hs4]; exact pushCells_keeps _ _ _ _ (Heap.get?_push_of_some _ e)
 have stat : ∀ {σ' : St} {H' : Hp} {s' : Shared}, Inv (X.blk s3 H3 scope ce fp) [] σ' H' s' → (∀ b ∈ fp, H' b = none) → ∀ b ∈ fp, FpOk (X.blk s3 H3 scope ce fp) [] H' b := fun {σ' H' s'} I' hn b hb =>
  ⟨hn b hb, (I'.ok.exf b hb).1, I'.ok.exfs b hb, .inl hb, fun x c e => (I'.ok.exf b hb).2 x c e, fun p hp => absurd (show p ∈ ([] : List (Addr × Obj)) ++ [] from hp) (by simp)⟩
 have loop : codeAny (model X.prog X.w) X.A (.compLoop (.ListComp elt [⟨tg, iter, ifs, 0⟩] scope pos) 0 (.ref it) (.ref D) ce) (compPost (model X.prog X.w) X.A X.xe use Qf (.ref D) s3.heap.objs.size) s4 := by
  refine compLoop_any (fun n s' => ∃ i H', Inv (X.blk s3 H3 scope ce fp) [] (wipe σ (own.map (·.2))) H' s' ∧ tn i s'.heap ∧ (∀ b ∈ fp, H' b = none) ∧ W i n H') ?_ m0 ⟨0, H3, I4, st4, nfp, w0⟩
  rintro n s5 ⟨i, H5, I5, st5, n5, w5⟩
  rcases turn i n H5 w5 with ⟨stop, qq⟩ | ⟨go, Nx, hNx, step⟩
  ·have td := T.done (X.blk s3 H3 scope ce fp) rfl rfl rfl hc i [] s5 _ H5 (fun _ _ => False) I5 (stat I5 n5) st5 stop
   refine thnF td fun r s6 ⟨hr, I6⟩ => ?_
   subst hr
   -- back in the def's context
   have I7 : Inv X pins σ H5 s6 := I3.call' (ch := fp) I6.os I6.base I6.hok I6.bare fun b hb => ⟨(f3 b hb).1.2.2.2.1, (f3 b hb).1.2.1, (f3 b hb).1.2.2.2.2.1, (f3 b hb).1.2.2.2.2.2⟩
   have nC : H5 s3.heap.objs.size = none := by
    have z : H5 ce.locals = none := I6.free
    rw [cL] at z
    exact z
   obtain ⟨m, hn, _⟩ := I6.loc
   have hn : s6.heap.Ns ce.locals m := hn
   rw [cL] at hn
   exact hRR D s3.heap.objs.size s6 m H5 I7 qq hn (I3.fpOk (Nat.le_refl _) nC)
  ·have ti := T.item (X.blk s3 H3 scope ce fp) rfl rfl rfl hc i [] s5 _ H5 (fun _ _ => False) I5 (stat I5 n5) st5 go
   refine thnF ti fun r s6 ⟨u, hr, h6⟩ => ?_
   subst hr
   refine thnF h6 fun _ s7 ⟨x, H7, I7, r7, y7, st7, n7⟩ => ?_
   have I7' := I7.pinned (stat I7 n7) (T.obj _ _ st7)
   refine thnF (pg _ s7 _ H7 x u _ I7' r7 (step x H7 y7)) fun _ s8 ⟨σ8, H8, I8, hw8, q8⟩ => ?_
   refine thnF (pt _ s8 σ8 H8 _ I8 q8) fun b s9 ⟨H9, I9, q9⟩ => ?_
   -- the turn's end
   have fin : ∀ {s' : Shared} {H' : Hp}, Inv (X.blk s3 H3 scope ce fp) ([] ++ pinsAt fp s7.heap) σ8 H' s' → Nx H' → ∃ m, m < n ∧ ∃ i H', Inv (X.blk s3 H3 scope ce fp) [] (wipe σ (own.map (·.2))) H' s' ∧ tn i s'.heap ∧ (∀ b ∈ fp, H' b = none) ∧ W i m H' := fun {s' H'} I' nx => by
    obtain ⟨m', hm, w'⟩ := hNx H' nx
    have pin' : ∀ b ∈ fp, ∀ o, s7.heap.get? b = some o → s'.heap.get? b = some o ∧ H' b = none := fun b hb o e =>
     let z := I'.pin (b, o) (List.mem_append_right _ (List.mem_append_right _ (mem_pinsAt hb e)))
     ⟨z.1, z.2.1⟩
    have hl : (wipe σ (own.map (·.2))).length = σ8.length := by rw [← hw8, wipe_length]
    refine ⟨m', hm, i + 1, H', (I'.unpinned (pins := [])).weak hl (fun j v e => ?_), T.keep _ _ _ st7 fun b hb o e => (pin' b hb o e).1, fun b hb => ?_, w'⟩
    ·rw [← hw8] at e
     exact (wipe_some e).1
    ·obtain ⟨o, e, _⟩ := T.obj _ _ st7 b hb
     exact (pin' b hb o e).2
   cases b with
   | false =>
    simp only [Bool.false_eq_true, if_false] at q9 ⊢
    exact fin I9 q9
   | true =>
    simp only [if_true] at q9 ⊢
    refine thnF (pe _ s9 σ8 H9 _ I9 q9) fun z s10 ⟨yv, H10, I10, r10, acc, hD10, hz10, nx⟩ => ?_
    exact app_ok (X := X.blk s3 H3 scope ce fp) I10 hD10 hz10 r10 fun s11 I11 => fin I11 nx
 exact codeAny_compStart_list loop (T.self X.A 0 _ _ _ st4 loop)
theorem pe_lc {elt tg iter : Expr} {ifs : List Expr} {scope : Scope} {own : List (Str × Nat)} {pos : Pos} {wi : TI} {g : TG} {tt : TT} {te : TE} (hc : X.calm = true) (hN : X.N.Nodup) (hi : PI X tg iter wi) (ok : BlkOk X.N X.env.scope scope own)
  (hg : ∀ (s : Shared) (H : Hp) (C : Addr) (cl : List (Str × Addr)) (fp : List Addr), PG (X.blk s H scope (compEnvC scope cl C X.env) fp) tg g) (ht : ∀ (s : Shared) (H : Hp) (C : Addr) (cl : List (Str × Addr)) (fp : List Addr), PTs (X.blk s H scope (compEnvC scope cl C X.env) fp) ifs tt)
  (he : ∀ (s : Shared) (H : Hp) (C : Addr) (cl : List (Str × Addr)) (fp : List Addr), PE (X.blk s H scope (compEnvC scope cl C X.env) fp) elt te) (hs : ∀ x, foldedSetIterable iter X.env x = pure x := by intro _; rfl) :
  PE X (.ListComp elt [⟨tg, iter, ifs, 0⟩] scope pos) (tLc wi g tt te (own.map (·.2))) := by
 intro pins s σ H Q I h
 rw [eval_ListComp]
 refine lc_core hc hN I hi ok hg ht he hs h fun D C s' m H' I' q hn f => ⟨m, hn, fun h'' sb => ?_⟩
 obtain ⟨f0, f1, f2, f3, f4, f5⟩ := f
 exact ⟨.ref D, H', I'.turned (t' := s'.toks) (fun b o hb e => (sb.2 b hb).trans e) f0 f1 f3 f4 f5, rfl, q⟩
theorem ps_setLc {i : Nat} {y : Str} {py : Pos} {elt tg iter : Expr} {ifs : List Expr} {scope : Scope} {own : List (Str × Nat)} {pos spos : Pos} {wi : TI} {g : TG} {tt : TT} {te : TE} (hc : X.calm = true) (hN : X.N.Nodup) (hy : X.N[i]? = some y) (hyl : X.env.scope.names.lookup y = some .local)
  (hsw : swapsWith (.ListComp elt [⟨tg, iter, ifs, 0⟩] scope pos) (some (.Name y py)) spos.line X.env = pure true) (hi : PI X tg iter wi) (ok : BlkOk X.N X.env.scope scope own)
  (hg : ∀ (s : Shared) (H : Hp) (C : Addr) (cl : List (Str × Addr)) (fp : List Addr), PG (X.blk s H scope (compEnvC scope cl C X.env) fp) tg g) (ht : ∀ (s : Shared) (H : Hp) (C : Addr) (cl : List (Str × Addr)) (fp : List Addr), PTs (X.blk s H scope (compEnvC scope cl C X.env) fp) ifs tt)
  (he : ∀ (s : Shared) (H : Hp) (C : Addr) (cl : List (Str × Addr)) (fp : List Addr), PE (X.blk s H scope (compEnvC scope cl C X.env) fp) elt te) (hs : ∀ x, foldedSetIterable iter X.env x = pure x := by intro _; rfl) :
  PS X (.Assign [.Name y py] (.ListComp elt [⟨tg, iter, ifs, 0⟩] scope pos) spos) (tAsg (tLc wi g tt te (own.map (·.2))) (gName i)) := by
 intro pins s σ H D I h
 rw [exec_Assign_Name_used _ _ _ _ hsw]
 refine wpAny_bind (wpAny_standAt (wpAny_bind ?_))
 show wpAny _ X.A (do let _ ← comprehension (.ListComp elt [⟨tg, iter, ifs, 0⟩] scope pos) scope X.env (firstIterPos [⟨tg, iter, ifs, 0⟩] pos) (newList []) false (eval iter X.env) (some (assign (.Name y py) X.env))) _ _ s
 have h : tLc wi g tt te (own.map (·.2)) σ H (fun x H1 => gName i x σ H1 D.nx) := h
 refine wpAny_bind (thn (lc_core (Qf := fun _ s' => SP X pins D .next s') hc hN I hi ok hg ht he hs h fun L C s' m H' I' q hn f => ?_) fun _ s' hq => wpAny_pure (wpAny_pure hq))
 show wpAny _ _ (assign (.Name y py) X.env (.ref L)) _ _ _
 refine wpAny_assign_Name (store_ok2 (v := V.ref L) I' hN hy (.inl hyl) rfl (fun s2 I2 ⟨a, sb, ha⟩ => ?_) (.inr hyl))
 obtain ⟨f0, f1, f2, f3, f4, f5⟩ := f
 have haC : C ≠ a := by
  rcases ha with z | z
  ·rw [z]; exact f1
  ·exact fun e => f4 y a z e.symm
 refine ⟨m, hn.sameBut sb haC, fun h3 sb3 => ?_⟩
 exact ⟨_, H', I2.turned (t' := s2.toks) (fun b o hb e => (sb3.2 b hb).trans e) f0 f1 f3 f4 f5, q⟩
theorem sw_true {elt : Expr} {gs : List Comprehension} {scope : Scope} {pos py : Pos} {y : Str} {l : Nat} {env : Env} (hk : env.scope.kind = .function) (hy : env.scope.names.lookup y = some .local) (hl : (py.line == pos.line) = true)
  (ha : (scope.names.any fun (n, k) => n == y && (k == .local || k == .cell)) = false) : swapsWith (.ListComp elt gs scope pos) (some (.Name y py)) l env = pure true := by
 have ky : env.kindOf y = some .local := hy
 have hb : env.blockKind = .function := by unfold Env.blockKind; rw [hk]; rfl
 unfold swapsWith
 simp only [hb, ky, ha, Expr.pos, hl]
 rfl
end
theorem lc_range {lo : Int} {n : Nat} {g : TG} {tt : TT} {te : TE} {vs : List Nat} {σ : St} {H1 : Hp} {D : Addr} {Qd : Hp → Prop} (Pv : Nat → Hp → Prop) (h0 : Pv 0 (upd H1 D (.lst [])))
  (hs : ∀ i H, i < n → Pv i H → g (.int (lo + i)) (wipe σ vs) H fun σ2 H2 => wipe σ2 vs = wipe σ vs ∧ tt σ2 H2 fun b H3 =>
   if b = true then te σ2 H3 fun y H4 => ∃ acc, H4 D = some (.lst acc) ∧ acc.length < sizeLine ∧ Pv (i + 1) (upd H4 D (.lst (acc ++ [y]))) else Pv (i + 1) H3) (hd : ∀ H, Pv n H → Qd H) :
  ∃ W : Nat → Nat → Hp → Prop, (∃ m, W 0 m (upd H1 D (.lst []))) ∧ ∀ i m H, W i m H →
   ((Itr lo n).stop i H ∧ Qd H) ∨ ((Itr lo n).go i H ∧ ∃ Nx : Hp → Prop, (∀ H', Nx H' → ∃ m', m' < m ∧ W (i + 1) m' H') ∧ ∀ x H', (Itr lo n).yld i H x H' → g x (wipe σ vs) H' fun σ2 H2 => wipe σ2 vs = wipe σ vs ∧ tt σ2 H2 fun b H3 =>
    if b = true then te σ2 H3 fun y H4 => ∃ acc, H4 D = some (.lst acc) ∧ acc.length < sizeLine ∧ Nx (upd H4 D (.lst (acc ++ [y]))) else Nx H3) := by
 refine ⟨fun i m H => m = n - i ∧ i ≤ n ∧ Pv i H, ⟨n, by simp, Nat.zero_le _, h0⟩, ?_⟩
 rintro i m H ⟨rfl, hi, p⟩
 by_cases hlt : i < n
 ·refine .inr ⟨hlt, Pv (i + 1), fun H' p' => ⟨n - (i + 1), by omega, rfl, hlt, p'⟩, fun x H' y => ?_⟩
  obtain ⟨e, y⟩ := y
  subst e y
  exact hs i _ hlt p
 ·have e : i = n := by omega
  subst e
  exact .inl ⟨Nat.le_refl _, hd H p⟩
theorem lc_list {K : PySem.W.Frag} {a : Addr} {xs : List V} {g : TG} {tt : TT} {te : TE} {vs : List Nat} {σ : St} {H1 : Hp} {D : Addr} {Qd : Hp → Prop} (Pv : Nat → Hp → Prop) (h0 : Pv 0 (upd H1 D (.lst []))) (hl : ∀ i H, i ≤ xs.length → Pv i H → SqL K H a xs)
  (hs : ∀ i x H, xs[i]? = some x → Pv i H → g x (wipe σ vs) H fun σ2 H2 => wipe σ2 vs = wipe σ vs ∧ tt σ2 H2 fun b H3 =>
   if b = true then te σ2 H3 fun y H4 => ∃ acc, H4 D = some (.lst acc) ∧ acc.length < sizeLine ∧ Pv (i + 1) (upd H4 D (.lst (acc ++ [y]))) else Pv (i + 1) H3) (hd : ∀ H, Pv xs.length H → Qd H) :
  ∃ W : Nat → Nat → Hp → Prop, (∃ m, W 0 m (upd H1 D (.lst []))) ∧ ∀ i m H, W i m H →
   ((Itl K a).stop i H ∧ Qd H) ∨ ((Itl K a).go i H ∧ ∃ Nx : Hp → Prop, (∀ H', Nx H' → ∃ m', m' < m ∧ W (i + 1) m' H') ∧ ∀ x H', (Itl K a).yld i H x H' → g x (wipe σ vs) H' fun σ2 H2 => wipe σ2 vs = wipe σ vs ∧ tt σ2 H2 fun b H3 =>
    if b = true then te σ2 H3 fun y H4 => ∃ acc, H4 D = some (.lst acc) ∧ acc.length < sizeLine ∧ Nx (upd H4 D (.lst (acc ++ [y]))) else Nx H3) := by
 refine ⟨fun i m H => m = xs.length - i ∧ i ≤ xs.length ∧ Pv i H, ⟨xs.length, by simp, Nat.zero_le _, h0⟩, ?_⟩
 rintro i m H ⟨rfl, hi, p⟩
 have q := hl i H hi p
 by_cases hlt : i < xs.length
 ·refine .inr ⟨⟨xs, xs[i], q, by simp [hlt]⟩, Pv (i + 1), fun H' p' => ⟨xs.length - (i + 1), by omega, rfl, hlt, p'⟩, fun x H' y => ?_⟩
  obtain ⟨e, y⟩ := y
  subst e
  exact hs i x _ (y xs q) p
 ·have e : i = xs.length := by omega
  subst e
  exact .inl ⟨⟨xs, q, Nat.le_refl _⟩, hd H p⟩
theorem lc_tup {K : PySem.W.Frag} {a : Addr} {xs : List V} {g : TG} {tt : TT} {te : TE} {vs : List Nat} {σ : St} {H1 : Hp} {D : Addr} {Qd : Hp → Prop} (Pv : Nat → Hp → Prop) (h0 : Pv 0 (upd H1 D (.lst []))) (hl : ∀ i H, i ≤ xs.length → Pv i H → SqT K H a xs)
  (hs : ∀ i x H, xs[i]? = some x → Pv i H → g x (wipe σ vs) H fun σ2 H2 => wipe σ2 vs = wipe σ vs ∧ tt σ2 H2 fun b H3 =>
   if b = true then te σ2 H3 fun y H4 => ∃ acc, H4 D = some (.lst acc) ∧ acc.length < sizeLine ∧ Pv (i + 1) (upd H4 D (.lst (acc ++ [y]))) else Pv (i + 1) H3) (hd : ∀ H, Pv xs.length H → Qd H) :
  ∃ W : Nat → Nat → Hp → Prop, (∃ m, W 0 m (upd H1 D (.lst []))) ∧ ∀ i m H, W i m H →
   ((Itt K a).stop i H ∧ Qd H) ∨ ((Itt K a).go i H ∧ ∃ Nx : Hp → Prop, (∀ H', Nx H' → ∃ m', m' < m ∧ W (i + 1) m' H') ∧ ∀ x H', (Itt K a).yld i H x H' → g x (wipe σ vs) H' fun σ2 H2 => wipe σ2 vs = wipe σ vs ∧ tt σ2 H2 fun b H3 =>
    if b = true then te σ2 H3 fun y H4 => ∃ acc, H4 D = some (.lst acc) ∧ acc.length < sizeLine ∧ Nx (upd H4 D (.lst (acc ++ [y]))) else Nx H3) := by
 refine ⟨fun i m H => m = xs.length - i ∧ i ≤ xs.length ∧ Pv i H, ⟨xs.length, by simp, Nat.zero_le _, h0⟩, ?_⟩
 rintro i m H ⟨rfl, hi, p⟩
 have q := hl i H hi p
 by_cases hlt : i < xs.length
 ·refine .inr ⟨⟨xs, xs[i], q, by simp [hlt]⟩, Pv (i + 1), fun H' p' => ⟨xs.length - (i + 1), by omega, rfl, hlt, p'⟩, fun x H' y => ?_⟩
  obtain ⟨e, y⟩ := y
  subst e
  exact hs i x _ (y xs q) p
 ·have e : i = xs.length := by omega
  subst e
  exact .inl ⟨⟨xs, q, Nat.le_refl _⟩, hd H p⟩
def blkC (N : List Str) (sc scope : Scope) (own : List (Str × Nat)) : Bool :=
 (match scope.kind with | .function => true | _ => false) && (scope.names.all fun y => decide (scope.names.lookup y.1 = some y.2)) && (own.all fun p => decide (N[p.2]? = some p.1)) &&
  (scope.names.all fun y => match y.2 with
   | .free => (match sc.names.lookup y.1 with | some .cell => true | some .free => true | _ => false)
   | .local => decide (y.1 ∈ own.map (·.1)) || decide (y.1 ∉ N)
   | .cell => decide (y.1 ∈ own.map (·.1)) || decide (y.1 ∉ N)
   | _ => true)
theorem blkOk_by {N : List Str} {sc scope : Scope} {own : List (Str × Nat)} (h : blkC N sc scope own = true) : BlkOk N sc scope own := by
 unfold blkC at h
 simp only [Bool.and_eq_true, List.all_eq_true, decide_eq_true_eq] at h
 obtain ⟨⟨⟨h1, h2⟩, h3⟩, h4⟩ := h
 refine ⟨?_, h2, h3, fun y hy e => ?_, fun y hy e => ?_⟩
 ·split at h1
  ·assumption
  ·cases h1
 ·have q := h4 y hy
  simp only [e] at q
  split at q <;> first | exact .inl (by assumption) | exact .inr (by assumption) | cases q
 ·have q := h4 y hy
  rcases e with e | e <;> (simp only [e, Bool.or_eq_true, decide_eq_true_eq] at q; exact q)
end L2
namespace L2
open PySem PySem.Spec PyProof.Rows
section
variable {prog : Program} {w : World} {A : Around} {R : Result → Shared → Prop} {s : Shared} {elt t0 i0 t1 i1 : Expr} {ifs0 ifs1 : List Expr} {scope : Scope} {pos : Pos} {it acc : Value} {env : Env}
end
section
variable {X : Cx}
end
end L2
namespace L2
open PySem PySem.Spec PyProof.Rows
section
variable {κ : Type} [DecidableEq κ]
def valV (kvs : List (κ × V)) (k : κ) : Option V := (kvs.find? fun kv => decide (kv.1 = k)).map (·.2)
def putK (kvs : List (κ × V)) (k : κ) (v : V) : List (κ × V) :=
 if (kvs.any fun kv => decide (kv.1 = k)) = true then kvs.map (fun kv => if kv.1 = k then (kv.1, v) else kv) else kvs ++ [(k, v)]
theorem valV_pos {p : κ × V} {r : List (κ × V)} {k : κ} (e : p.1 = k) : valV (p :: r) k = some p.2 := by simp [valV, List.find?_cons, e]
theorem valV_neg {p : κ × V} {r : List (κ × V)} {k : κ} (e : ¬ p.1 = k) : valV (p :: r) k = valV r k := by simp [valV, List.find?_cons, e]
theorem valV_any (k : κ) : ∀ kvs : List (κ × V), (kvs.any fun kv => decide (kv.1 = k)) = (valV kvs k).isSome
 | [] => rfl
 | p :: r => by
  rw [List.any_cons]
  by_cases e : p.1 = k
  ·simp only [valV_pos e, decide_eq_true e, Bool.true_or, Option.isSome_some]
  ·rw [valV_neg e, decide_eq_false e, Bool.false_or]; exact valV_any k r
theorem valV_map (k j : κ) (y : V) : ∀ kvs : List (κ × V), valV (kvs.map fun kv => if kv.1 = k then (kv.1, y) else kv) j = (valV kvs j).map fun x => if j = k then y else x
 | [] => rfl
 | p :: r => by
  have ih := valV_map k j y r
  rw [List.map_cons]
  by_cases h : p.1 = k
  ·rw [if_pos h]
   by_cases e : p.1 = j
   ·rw [valV_pos (p := (p.1, y)) e, valV_pos e, Option.map_some, if_pos (e.symm.trans h)]
   ·rw [valV_neg (p := (p.1, y)) e, valV_neg e, ih]
  ·rw [if_neg h]
   by_cases e : p.1 = j
   ·rw [valV_pos (p := p) e, valV_pos e, Option.map_some, if_neg (fun z => h (e.trans z))]
   ·rw [valV_neg (p := p) e, valV_neg e, ih]
theorem valV_snoc (k j : κ) (y : V) : ∀ kvs : List (κ × V), valV kvs k = none → valV (kvs ++ [(k, y)]) j = if j = k then some y else valV kvs j
 | [], _ => by
  by_cases e : k = j
  ·rw [if_pos e.symm]; exact valV_pos (p := (k, y)) e
  ·rw [if_neg (fun z => e z.symm)]; exact valV_neg (p := (k, y)) e
 | p :: r, hn => by
  rw [List.cons_append]
  have hk : ¬ p.1 = k := fun z => by rw [valV_pos z] at hn; cases hn
  rw [valV_neg hk] at hn
  have ih := valV_snoc k j y r hn
  by_cases e : p.1 = j
  ·rw [valV_pos e, valV_pos e, if_neg (fun z => hk (e.trans z))]
  ·rw [valV_neg e, valV_neg e, ih]
theorem valV_put (kvs : List (κ × V)) (k j : κ) (y : V) : valV (putK kvs k y) j = if j = k then some y else valV kvs j := by
 unfold putK
 by_cases a : (kvs.any fun kv => decide (kv.1 = k)) = true
 ·rw [if_pos a, valV_map]
  rw [valV_any] at a
  by_cases e : j = k
  ·obtain ⟨x, hx⟩ := Option.isSome_iff_exists.mp a
   rw [if_pos e, e, hx, Option.map_some, if_pos rfl]
  ·rw [if_neg e]
   cases valV kvs j with
   | none => rfl
   | some x => rw [Option.map_some, if_neg e]
 ·rw [if_neg a]
  refine valV_snoc k j y kvs ?_
  rw [valV_any] at a
  cases q : valV kvs k with
  | none => rfl
  | some x => rw [q] at a; exact (a rfl).elim
theorem length_putK (kvs : List (κ × V)) (k : κ) (v : V) : (putK kvs k v).length ≤ kvs.length + 1 := by
 unfold putK
 split
 ·rw [List.length_map]; omega
 ·rw [List.length_append, List.length_cons, List.length_nil]; omega
theorem putK_new {kvs : List (κ × V)} {k : κ} (v : V) (h : valV kvs k = none) : putK kvs k v = kvs ++ [(k, v)] := by
 unfold putK
 rw [valV_any, h]
 exact if_neg (by decide)
theorem RelO.isSome_eq {o : Option V} {u : Option Value} (r : RelO o u) : o.isSome = u.isSome := by
 cases o with
 | none => cases u with
  | none => rfl
  | some _ => exact (show False from r).elim
 | some _ => cases u with
  | none => exact (show False from r).elim
  | some _ => rfl
theorem RelO.getD {o : Option V} {u : Option Value} {d : V} {d' : Value} (r : RelO o u) (rd : RelV d d') : RelV (o.getD d) (u.getD d') := by
 cases o with
 | none => cases u with
  | none => exact rd
  | some _ => exact (show False from r).elim
 | some _ => cases u with
  | none => exact (show False from r).elim
  | some _ => exact r
theorem KV.val {kvs : List (κ × V)} {vs : List (κ × Value)} (r : KV kvs vs) (k : κ) : RelO (valV kvs k) (valueAt vs k) := by
 unfold KV at r
 induction r with
 | nil => exact True.intro
 | @cons p q ps qs h t ih =>
  obtain ⟨h1, h2⟩ := h
  by_cases e : p.1 = k
  ·have e' : q.1 = k := h1.symm.trans e
   have b : valueAt (q :: qs) k = some q.2 := by simp [valueAt, List.find?_cons, e']
   rw [valV_pos e, b]; exact h2
  ·have e' : ¬ q.1 = k := fun z => e (h1.trans z)
   have b : valueAt (q :: qs) k = valueAt qs k := by simp [valueAt, List.find?_cons, e']
   rw [valV_neg e, b]; exact ih
theorem KV.any {kvs : List (κ × V)} {vs : List (κ × Value)} (r : KV kvs vs) (k : κ) : (kvs.any fun kv => decide (kv.1 = k)) = vs.any fun kv => decide (kv.1 = k) := by
 unfold KV at r
 induction r with
 | nil => rfl
 | cons h t ih => rw [List.any_cons, List.any_cons, ih, h.1]
theorem KV.repl {kvs : List (κ × V)} {vs : List (κ × Value)} (r : KV kvs vs) (k : κ) {y : V} {u : Value} (ry : RelV y u) :
  KV (kvs.map fun kv => if kv.1 = k then (kv.1, y) else kv) (vs.map fun kv => if kv.1 = k then (kv.1, u) else kv) := by
 unfold KV at r ⊢
 induction r with
 | nil => exact .nil
 | @cons p q ps qs h t ih =>
  rw [List.map_cons, List.map_cons]
  refine .cons ?_ ih
  obtain ⟨h1, h2⟩ := h
  by_cases e : p.1 = k
  ·rw [if_pos e, if_pos (h1.symm.trans e)]; exact ⟨h1, ry⟩
  ·rw [if_neg e, if_neg (fun z => e (h1.trans z))]; exact ⟨h1, h2⟩
theorem KV.put {kvs : List (κ × V)} {vs : List (κ × Value)} (r : KV kvs vs) (k : κ) {y : V} {u : Value} (ry : RelV y u) : KV (putK kvs k y) (stored vs k u) := by
 unfold putK stored
 rw [r.any k]
 by_cases e : (vs.any fun kv => decide (kv.1 = k)) = true
 ·rw [if_pos e, if_pos e]; exact r.repl k ry
 ·rw [if_neg e, if_neg e]; exact Paired.snoc r ⟨rfl, ry⟩
theorem KV.length {kvs : List (κ × V)} {vs : List (κ × Value)} (r : KV kvs vs) : kvs.length = vs.length := Paired.length r
end
theorem kV_is {P : Program} {w : World} {k : Key} {u : Value} (r : RelV (kV k) u) : (mixKind P w).is k u = true := by
 cases k with
 | inl i => obtain ⟨t, e⟩ := (show ∃ t, u = Value.int i t from r); subst e; exact mixKind_int P w i t
 | inr x => obtain ⟨t, e⟩ := (show ∃ t, u = Value.str x t from r); subst e; exact mixKind_str P w x t
theorem items_are {P : Program} {w : World} : ∀ {ks : List Key} {us : List Value}, Vals (ks.map kV) us → ItemsAre (mixKind P w) ks us
 | [], _, r => by rw [List.map_nil] at r; cases r; exact .nil
 | k :: ks, _, r => by
  rw [List.map_cons] at r
  cases r with
  | cons h t => exact .cons (kV_is h) (items_are t)
abbrev KT (H : Hp) : List (List Key × V) → List (List Key × Addr × Value) → Prop := Paired fun p q => p.1 = q.1 ∧ H q.2.1 = some (.tup (p.1.map kV)) ∧ RelV p.2 q.2.2
theorem KT.val {H : Hp} {kvs : List (List Key × V)} {xs : List (List Key × Addr × Value)} (r : KT H kvs xs) (k : List Key) : RelO (valV kvs k) ((atKey xs k).map (·.2)) := by
 induction r with
 | nil => exact True.intro
 | @cons p q ps qs h t ih =>
  obtain ⟨h1, _, h2⟩ := h
  by_cases e : p.1 = k
  ·have e' : q.1 = k := h1.symm.trans e
   have b : atKey (q :: qs) k = some q.2 := by simp [atKey, List.find?_cons, e']
   rw [valV_pos e, b]; exact h2
  ·have e' : ¬ q.1 = k := fun z => e (h1.trans z)
   have b : atKey (q :: qs) k = atKey qs k := by simp [atKey, List.find?_cons, e']
   rw [valV_neg e, b]; exact ih
theorem KT.repl {H : Hp} {kvs : List (List Key × V)} {xs : List (List Key × Addr × Value)} (r : KT H kvs xs) (k : List Key) {y : V} {u : Value} (ry : RelV y u) :
  KT H (kvs.map fun kv => if kv.1 = k then (kv.1, y) else kv) (xs.map (putAt k u)) := by
 induction r with
 | nil => exact .nil
 | @cons p q ps qs h t ih =>
  rw [List.map_cons, List.map_cons]
  refine .cons ?_ ih
  obtain ⟨h1, h2, h3⟩ := h
  unfold putAt
  by_cases e : p.1 = k
  ·rw [if_pos e, if_pos (h1.symm.trans e)]; exact ⟨h1, h2, ry⟩
  ·rw [if_neg e, if_neg (fun z => e (h1.trans z))]; exact ⟨h1, h2, h3⟩
theorem KT.put {H : Hp} {kvs : List (List Key × V)} {xs : List (List Key × Addr × Value)} (r : KT H kvs xs) (k : List Key) {b : Addr} {y : V} {u : Value} (hb : H b = some (.tup (k.map kV))) (ry : RelV y u) :
  KT H (putK kvs k y) (storedH xs k b u) := by
 have e : (kvs.any fun kv => decide (kv.1 = k)) = (atKey xs k).isSome := by
  rw [valV_any, (r.val k).isSome_eq, Option.isSome_map]
 unfold putK storedH
 rw [e]
 by_cases q : (atKey xs k).isSome = true
 ·rw [if_pos q, if_pos q]; exact r.repl k ry
 ·rw [if_neg q, if_neg q]; exact Paired.snoc r ⟨rfl, hb, ry⟩
theorem KT.keeps {H H' : Hp} {kvs : List (List Key × V)} {xs : List (List Key × Addr × Value)} (r : KT H kvs xs) (ht : ∀ b ys, H b = some (.tup ys) → H' b = some (.tup ys)) : KT H' kvs xs :=
 Paired.mapP r fun _ _ z => ⟨z.1, ht _ _ z.2.1, z.2.2⟩
section
variable {P : Program} {w : World} {H : Hp} {h : Heap} {a : Addr}
theorem rd_of {u : HO} (ok : HOk P w H h) (e : Rd H a u) : ObjOk P w H h a u := e.ok ok
theorem dk_rd {kvs : List (Key × V)} (ok : HOk P w H h) (e : Rd H a (.dK kvs)) : kvs.length ≤ sizeLine ∧ (a == sysModules) = false ∧ ∃ vs, KV kvs vs ∧ h.DictOf (mixKind P w) a vs :=
 show ObjOk P w H h a (.dK kvs) from rd_of ok e
theorem dk_of {kvs : List (Key × V)} (ok : HOk P w H h) (e : H a = some (.dK kvs)) : kvs.length ≤ sizeLine ∧ (a == sysModules) = false ∧ ∃ vs, KV kvs vs ∧ h.DictOf (mixKind P w) a vs := dk_rd ok (.inl e)
theorem key_of {ks : List Key} (ok : HOk P w H h) (e : H a = some (.tup (ks.map kV))) : (tupleKind (mixKind P w)).is h ks a := by
 obtain ⟨_, its, r, o, h1, h2, n, h3⟩ := (show ObjOk P w H h a (.tup (ks.map kV)) from ok a _ e)
 exact ⟨o, its.toArray, n, h1, h2, h3, by simpa using items_are r⟩
theorem dt_rd {kvs : List (List Key × V)} (ok : HOk P w H h) (e : Rd H a (.dT kvs)) : kvs.length ≤ sizeLine ∧ (a == sysModules) = false ∧
  ∃ xs, KT H kvs xs ∧ h.DictOfH (tupleKind (mixKind P w)) a xs := by
 obtain ⟨z, y, xs, r, o, es, ep, h1, h2, h3, h4, h5⟩ := (show ObjOk P w H h a (.dT kvs) from rd_of ok e)
 refine ⟨z, y, xs, r, o, es, ep, h1, h2, h3, h4, fun x hx => ?_, h5⟩
 have all : ∀ {l : List (List Key × V)} {m : List (List Key × Addr × Value)}, KT H l m → ∀ x ∈ m, (tupleKind (mixKind P w)).is h x.1 x.2.1 := by
  intro l m q
  induction q with
  | nil => intro x hx; exact nomatch hx
  | @cons p q ps qs hq t ih =>
   intro x hx
   rcases List.mem_cons.mp hx with e | hx
   ·subst e
    exact key_of ok (by rw [← hq.1]; exact hq.2.1)
   ·exact ih x hx
 exact all r x hx
theorem dt_of {kvs : List (List Key × V)} (ok : HOk P w H h) (e : H a = some (.dT kvs)) : kvs.length ≤ sizeLine ∧ (a == sysModules) = false ∧
  ∃ xs, KT H kvs xs ∧ h.DictOfH (tupleKind (mixKind P w)) a xs := dt_rd ok (.inl e)
end
def DGet (H : Hp) (a : Addr) (y : V) (r : Option V) : Prop :=
 (∃ kvs k, Rd H a (.dK kvs) ∧ y = kV k ∧ r = valV kvs k) ∨ ∃ kvs k b, Rd H a (.dT kvs) ∧ y = .ref b ∧ H b = some (.tup (k.map kV)) ∧ r = valV kvs k
def DPut (H : Hp) (a : Addr) (y v : V) (H' : Hp) : Prop :=
 (∃ kvs k, H a = some (.dK kvs) ∧ y = kV k ∧ kvs.length < sizeLine ∧ H' = upd H a (.dK (putK kvs k v))) ∨
 ∃ kvs k b, H a = some (.dT kvs) ∧ y = .ref b ∧ H b = some (.tup (k.map kV)) ∧ kvs.length < sizeLine ∧ H' = upd H a (.dT (putK kvs k v))
theorem DGet.k {H : Hp} {a : Addr} {kvs : List (Key × V)} {k : Key} (e : H a = some (.dK kvs)) : DGet H a (kV k) (valV kvs k) := .inl ⟨kvs, k, .inl e, rfl, rfl⟩
theorem DPut.k {H : Hp} {a : Addr} {kvs : List (Key × V)} {k : Key} {v : V} (e : H a = some (.dK kvs)) (hl : kvs.length < sizeLine) : DPut H a (kV k) v (upd H a (.dK (putK kvs k v))) := .inl ⟨kvs, k, e, rfl, hl, rfl⟩
section
variable {X : Cx} {pins : List (Addr × Obj)} {σ : St} {H : Hp} {s : Shared} {a : Addr} {y v : V} {u r : Value} {o : Option V} {A : Around} {E : Value → Shared → Prop}
theorem Inv.big (I : Inv X pins σ H s) : sysModules < s.heap.objs.size := by
 have h : mainGlobals < s.heap.objs.size := (I.mod.glob.keeps I.bk).lt
 exact Nat.lt_trans (by decide) h
theorem d_getItem {Q : Value → Shared → Prop} (hu : A.units + 1 < cLine) (I : Inv X pins σ H s) (g : DGet H a y (some v)) (ry : RelV y u) (h : ∀ w' s', Inv X pins σ H s' → RelV v w' → Q w' s') :
  wpAny (model X.prog X.w) A (getItem (.ref a) u) Q E s := by
 rcases g with ⟨kvs, k, e, ey, l⟩ | ⟨kvs, k, b, e, ey, eb, l⟩
 ·subst ey
  obtain ⟨z, hd, vs, rel, dd⟩ := dk_rd I.hok e
  obtain ⟨w', hw, rw'⟩ := RelO.some_of (v := v) (o := valueAt vs k) (by rw [l]; exact rel.val k)
  exact wpAny_getItem_of (kV_is ry) dd.mapOf hw (h w' _ (I.tok _) rw')
 ·subst ey
  cases (show u = Value.ref b from ry)
  obtain ⟨z, hd, xs, rel, dd⟩ := dt_rd I.hok e
  obtain ⟨w', hw, rw'⟩ := RelO.some_of (v := v) (o := (atKey xs k).map (·.2)) (by rw [l]; exact rel.val k)
  obtain ⟨p, hp, hp2⟩ := Option.map_eq_some_iff.mp hw
  refine wpAny_getItem_heap (tupleKind_room_in1 hu) (key_of I.hok eb) dd hp ?_
  rw [hp2]
  exact h w' _ (I.tok _) rw'
theorem d_in {Q : Value → Shared → Prop} (hu : A.units + 1 < cLine) (I : Inv X pins σ H s) (g : DGet H a y o) (ry : RelV y u) (h : ∀ s', Inv X pins σ H s' → Q (.bool o.isSome) s') :
  wpAny (model X.prog X.w) A (compareOp .In u (.ref a)) Q E s := by
 rcases g with ⟨kvs, k, e, ey, l⟩ | ⟨kvs, k, b, e, ey, eb, l⟩
 ·subst ey
  obtain ⟨z, hd, vs, rel, dd⟩ := dk_rd I.hok e
  refine wpAny_in_of (kV_is ry) hd dd.mapOf ?_
  rw [← (rel.val k).isSome_eq, ← l]
  exact h _ (I.tok _)
 ·subst ey
  cases (show u = Value.ref b from ry)
  obtain ⟨z, hd, xs, rel, dd⟩ := dt_rd I.hok e
  refine wpAny_in_heap (tupleKind_room_in1 hu) (key_of I.hok eb) hd dd ?_
  have q := (rel.val k).isSome_eq
  rw [Option.isSome_map] at q
  rw [← q, ← l]
  exact h _ (I.tok _)
theorem d_notIn {Q : Value → Shared → Prop} (hu : A.units + 1 < cLine) (I : Inv X pins σ H s) (g : DGet H a y o) (ry : RelV y u) (h : ∀ s', Inv X pins σ H s' → Q (.bool (!o.isSome)) s') :
  wpAny (model X.prog X.w) A (compareOp .NotIn u (.ref a)) Q E s := by
 rcases g with ⟨kvs, k, e, ey, l⟩ | ⟨kvs, k, b, e, ey, eb, l⟩
 ·subst ey
  obtain ⟨z, hd, vs, rel, dd⟩ := dk_rd I.hok e
  refine wpAny_notIn_of (kV_is ry) hd dd.mapOf ?_
  rw [← (rel.val k).isSome_eq, ← l]
  exact h _ (I.tok _)
 ·subst ey
  cases (show u = Value.ref b from ry)
  obtain ⟨z, hd, xs, rel, dd⟩ := dt_rd I.hok e
  refine wpAny_notIn_heap (tupleKind_room_in1 hu) (key_of I.hok eb) hd dd ?_
  have q := (rel.val k).isSome_eq
  rw [Option.isSome_map] at q
  rw [← q, ← l]
  exact h _ (I.tok _)
theorem d_write {h' : Heap} {t' : Nat} {ob : HO} (I : Inv X pins σ H s) (mu : Mut (H a)) (hs : Heap.SameBut a s.heap h') (he : ∃ q, h'.get? a = some q) (new : ObjOk X.prog X.w (upd H a ob) h' a ob) :
  Inv X pins σ (upd H a ob) { s with heap := h', toks := t' } :=
 I.write (x := a) (e := a) mu (.inl rfl) (fun b q hb z => (hs.2 b hb).trans z) he new
theorem dk_new {P : Program} {w : World} {H' : Hp} {h' : Heap} {kvs : List (Key × V)} {vs : List (Key × Value)} (z : kvs.length ≤ sizeLine) (hd : (a == sysModules) = false) (rel : KV kvs vs) (dd : h'.DictOf (mixKind P w) a vs) :
  ObjOk P w H' h' a (.dK kvs) := ⟨z, hd, vs, rel, dd⟩
theorem d_setItem {H' : Hp} {Q : Unit → Shared → Prop} (hu : A.units + 1 < cLine) (I : Inv X pins σ H s) (g : DPut H a y v H') (ry : RelV y u) (rv : RelV v r) (h : ∀ s', Inv X pins σ H' s' → Q () s') :
  wpAny (model X.prog X.w) A (setItem (.ref a) u r) Q E s := by
 rcases g with ⟨kvs, k, e, ey, l, eH⟩ | ⟨kvs, k, b, e, ey, eb, l, eH⟩
 ·subst ey eH
  obtain ⟨z, hd, vs, rel, dd⟩ := dk_of I.hok e
  have hz : vs.length ≤ sizeLine := by rw [← rel.length]; exact z
  have hl : (putK kvs k v).length ≤ sizeLine := by have := length_putK kvs k v; omega
  refine wpAny_setItem_pairs (hsz := hz) (kV_is ry) dd fun h' dd' hs => h _ ?_
  have he : ∃ q, h'.get? a = some q := let ⟨q, _, _, hq, _⟩ := dd'; ⟨q, hq⟩
  exact d_write I (by rw [e]; exact True.intro) hs he (dk_new hl hd (rel.put k rv) dd')
 ·subst ey eH
  cases (show u = Value.ref b from ry)
  obtain ⟨z, hd, xs, rel, dd⟩ := dt_of I.hok e
  have hz : xs.length ≤ sizeLine := by rw [← Paired.length rel]; exact z
  have hl : (putK kvs k v).length ≤ sizeLine := by have := length_putK kvs k v; omega
  refine wpAny_setItem_heap (hsz := hz) (tupleKind_room_in1 hu) (key_of I.hok eb) dd fun h' dd' hs => h _ ?_
  obtain ⟨q, es, ep, hq, h2, h3, h4, _, h5⟩ := dd'
  refine d_write I (by rw [e]; exact True.intro) hs ⟨q, hq⟩ ⟨hl, hd, _, (rel.put k eb rv).keeps fun c ys ec => ?_, q, es, ep, hq, h2, h3, h4, h5⟩
  rw [upd_ne (ne_of ec e (fun z => nomatch z))]
  exact ec
end
section
variable {X : Cx} {pins : List (Addr × Obj)} {σ : St} {H : Hp} {s : Shared} {a : Addr} {kvs : List (Key × V)} {k : Key} {u : Value} {A : Around} {E : Value → Shared → Prop}
end
def NoSl (i : Expr) : Prop := ∀ ov iv, subscripted i false ov iv = operate [ov, iv] (getItem ov iv)
theorem subD_of {prog : Program} {w : World} {A : Around} {E : Value → Shared → Prop} {s : Shared} {env : Env} {value slice : Expr} {pos : Pos} {T id : String} {Q : Value → Shared → Prop}
  (hl : typeLookup (.type T) "__getitem__" = pure (some (.builtin id))) (hs : NoSl slice)
  (h : wpAny (model prog w) A (eval value env) (fun o s₁ => wpAny (model prog w) A (eval slice env) (fun i s₂ => s₂.TypeIs o T ∧ wpAny (model prog w) A (getItem o i) Q E s₂) E s₁) E s) :
  wpAny (model prog w) A (eval (.Subscript value slice pos) env) Q E s := by
 refine Subscript_ (wpAny_mono h (fun o s₁ h₁ => wpAny_mono h₁ (fun i s₂ h₂ => ?_) fun _ _ x => x) fun _ _ x => x)
 obtain ⟨hT, h₂⟩ := h₂
 unfold subscriptTail
 refine wpAny_bind ?_
 rw [getitemInPython_of_ne hT.not_modules]
 refine wpAny_bind (wpAny_specialOf hT hl ?_)
 have fin : wpAny (model prog w) A (subscripted slice false o i) (fun r s₃ => wpAny (model prog w) A (letTemporaryGo value o r >>= fun _ => pure r) Q E s₃) E s₂ := by
  rw [hs o i]
  exact wpAny_operating (wpAny_mono h₂ (fun r s₃ h₃ => wpAny_bind (wpAny_letTemporaryGo (wpAny_pure h₃))) fun _ _ x => x)
 first
  | exact wpAny_pure (wpAny_bind fin)
  | exact wpAny_bind (wpAny_pure (wpAny_bind fin))
  | exact wpAny_bind fin
theorem dict_typeIs {X : Cx} {pins : List (Addr × Obj)} {σ : St} {H : Hp} {s : Shared} {a : Addr} {y : V} {o : Option V} (I : Inv X pins σ H s) (g : DGet H a y o) : s.TypeIs (.ref a) "dict" := by
 rcases g with ⟨kvs, k, e, _, _⟩ | ⟨kvs, k, b, e, _, _, _⟩
 ·obtain ⟨_, _, vs, _, dd⟩ := dk_rd I.hok e
  exact dd.typeIs
 ·obtain ⟨_, _, xs, _, dd⟩ := dt_rd I.hok e
  exact dd.typeIs
def tDGet (td ty : TE) : TE := fun σ H Q => td σ H fun x H1 => ty σ H1 fun y H2 => ∃ a v, x = .ref a ∧ DGet H2 a y (some v) ∧ Q v H2
def tDIn (ty td : TE) : TE := fun σ H Q => ty σ H fun y H1 => td σ H1 fun x H2 => ∃ a o, x = .ref a ∧ DGet H2 a y o ∧ Q (.bl o.isSome) H2
def tDNotIn (ty td : TE) : TE := fun σ H Q => ty σ H fun y H1 => td σ H1 fun x H2 => ∃ a o, x = .ref a ∧ DGet H2 a y o ∧ Q (.bl (!o.isSome)) H2
def sDPut (td ty tv : TE) : TS := fun D σ H => tv σ H fun v H1 => td σ H1 fun x H2 => ty σ H2 fun y H3 => ∃ a H4, x = .ref a ∧ DPut H3 a y v H4 ∧ D.nx σ H4
section
variable {X : Cx} {o i e value : Expr} {pos pos' tpos : Pos} {td ty tv : TE}
theorem pe_dget (hu : X.A.units + 1 < cLine) (ho : PE X o td) (hi : PE X i ty) (hs : NoSl i) : PE X (.Subscript o i pos) (tDGet td ty) := by
 intro pins s σ H Q I h
 refine subD_of PySem.F.slot_dict_getitem.lookup hs (thn (ho pins s σ H _ I h) fun u s1 ⟨x, H1, I1, rx, q1⟩ => thn (hi pins s1 σ H1 _ I1 q1) fun iv s2 ⟨y, H2, I2, ry, a, v, ex, g, q2⟩ => ?_)
 subst ex
 obtain rfl : u = Value.ref a := rx
 exact ⟨dict_typeIs I2 g, d_getItem hu I2 g ry fun w' s3 I3 rw' => ⟨v, H2, I3, rw', q2⟩⟩
theorem pc_din (hu : X.A.units + 1 < cLine) (hi : PE X i ty) (ho : PE X o td) : PC X .In i o (tDIn ty td) := by
 intro pins s σ H Q I h
 refine thn (hi pins s σ H _ I h) fun iv s1 ⟨y, H1, I1, ry, q1⟩ => thn (ho pins s1 σ H1 _ I1 q1) fun u s2 ⟨x, H2, I2, rx, a, ov, ex, g, q2⟩ => ?_
 subst ex
 obtain rfl : u = Value.ref a := rx
 exact d_in hu I2 g ry fun s3 I3 => ⟨.bl ov.isSome, H2, I3, rfl, q2⟩
theorem pc_dnotin (hu : X.A.units + 1 < cLine) (hi : PE X i ty) (ho : PE X o td) : PC X .NotIn i o (tDNotIn ty td) := by
 intro pins s σ H Q I h
 refine thn (hi pins s σ H _ I h) fun iv s1 ⟨y, H1, I1, ry, q1⟩ => thn (ho pins s1 σ H1 _ I1 q1) fun u s2 ⟨x, H2, I2, rx, a, ov, ex, g, q2⟩ => ?_
 subst ex
 obtain rfl : u = Value.ref a := rx
 exact d_notIn hu I2 g ry fun s3 I3 => ⟨.bl (!ov.isSome), H2, I3, rfl, q2⟩
theorem ps_dput (hu : X.A.units + 1 < cLine) (ho : PE X o td) (hi : PE X i ty) (hv : PE X value tv) (hs : swapsWith value (some (.Subscript o i pos')) pos.line X.env = pure false) :
  PS X (.Assign [.Subscript o i pos'] value pos) (sDPut td ty tv) := by
 intro pins s σ H D I h
 refine wpAny_Assign_Subscript (thn (hv pins s σ H _ I h) fun r s1 ⟨v, H1, I1, rv, q1⟩ => thn (ho pins s1 σ H1 _ I1 q1) fun u s2 ⟨x, H2, I2, rx, q2⟩ => thn (hi pins s2 σ H2 _ I2 q2) fun iv s3 ⟨y, H3, I3, ry, a, H4, ex, g, q3⟩ => ?_) hs
 subst ex
 obtain rfl : u = Value.ref a := rx
 exact d_setItem hu I3 g ry rv fun s4 I4 => ⟨σ, H4, I4, q3⟩
end
theorem dk_empty {P : Program} {w : World} {H : Hp} (h : Heap) (hb : sysModules < h.objs.size) : ObjOk P w H (h.push { cls := .type "dict", data := .dict #[] }) h.objs.size (.dK []) :=
 ⟨Nat.zero_le _, beq_eq_false_iff_ne.mpr (Ne.symm (Nat.ne_of_lt hb)), [], .nil, Heap.DictOf.new h⟩
def tDNewK : TE := fun _ H Q => ∀ p, H p = none → Q (.ref p) (upd H p (.dK []))
section
variable {X : Cx} {pos : Pos}
theorem pe_dnewK : PE X (.Dict [] [] pos) tDNewK := fun pins s σ H Q I h =>
 wpAny_Dict_empty ⟨.ref s.heap.objs.size, _, I.laid (a := s.heap.objs.size) (o := .dK []) (t' := s.toks) (fun _ _ q => Heap.get?_push_of_some _ q) (Nat.le_refl _) (dk_empty s.heap I.big), rfl, h _ (I.hok.fresh (Nat.le_refl _))⟩
end
def tPairs : List (TE × TE) → St → Hp → (List (V × V) → Hp → Prop) → Prop
 | [], _, H, Q => Q [] H
 | (tk, tv) :: r, σ, H, Q => tk σ H fun x H1 => tv σ H1 fun y H2 => tPairs r σ H2 fun ps H3 => Q ((x, y) :: ps) H3
abbrev VV : List (V × V) → List (Value × Value) → Prop := Paired fun p q => RelV p.1 q.1 ∧ RelV p.2 q.2
def PPs (X : Cx) (pos : Pos) (keys : List (Option Expr)) (values : List Expr) (trs : List (TE × TE)) : Prop :=
 ∀ (pins : List (Addr × Obj)) (s : Shared) (σ : St) (H : Hp) (Q : List (V × V) → Hp → Prop), Inv X pins σ H s → tPairs trs σ H Q →
  wpAny (model X.prog X.w) X.A (evalPairs (pairTrees keys values X.env pos)) (fun vs s' => ∃ ps H', Inv X pins σ H' s' ∧ VV ps vs ∧ Q ps H') X.xe s
theorem pps_nil {X : Cx} {pos : Pos} : PPs X pos [] [] [] := fun pins s σ H Q I h => pairTrees_nil_walk ⟨[], H, I, .nil, h⟩
theorem pps_cons {X : Cx} {pos : Pos} {k v : Expr} {ks : List (Option Expr)} {vs : List Expr} {tk tv : TE} {trs : List (TE × TE)} (hk : PE X k tk) (hv : PE X v tv) (hr : PPs X pos ks vs trs) :
  PPs X pos (some k :: ks) (v :: vs) ((tk, tv) :: trs) := fun pins s σ H Q I h =>
 pairTrees_cons_walk (thn (hk pins s σ H _ I h) fun u s1 ⟨x, H1, I1, rx, q1⟩ => thn (hv pins s1 σ H1 _ I1 q1) fun w2 s2 ⟨y, H2, I2, ry, q2⟩ =>
  thn (hr pins s2 σ H2 _ I2 q2) fun ws s3 ⟨ps, H3, I3, rel, q3⟩ => ⟨(x, y) :: ps, H3, I3, .cons ⟨rx, ry⟩ rel, q3⟩)
def mergeK (kvs more : List (Key × V)) : List (Key × V) := more.foldl (fun acc kv => putK acc kv.1 kv.2) kvs
theorem KV.merge : ∀ {more : List (Key × V)} {rs : List (Key × Value)} {kvs : List (Key × V)} {vs : List (Key × Value)}, KV more rs → KV kvs vs → KV (mergeK kvs more) (merged vs rs) := by
 intro more rs kvs vs r
 unfold KV at r
 induction r generalizing kvs vs with
 | nil => intro q; exact q
 | @cons p q ps qs h t ih =>
  intro r0
  have e : KV (putK kvs p.1 p.2) (stored vs q.1 q.2) := by
   have := r0.put p.1 h.2
   rw [← h.1]; exact this
  exact ih e
theorem length_mergeK : ∀ (more kvs : List (Key × V)), (mergeK kvs more).length ≤ kvs.length + more.length
 | [], kvs => by show kvs.length ≤ kvs.length + 0; omega
 | p :: r, kvs => by
  have h1 := length_mergeK r (putK kvs p.1 p.2)
  have h2 := length_putK kvs p.1 p.2
  show (mergeK (putK kvs p.1 p.2) r).length ≤ _
  rw [List.length_cons]; omega
theorem carries_of {P : Program} {w : World} : ∀ {kvs : List (Key × V)} {ws : List (Value × Value)}, VV (kvs.map fun kv => (kV kv.1, kv.2)) ws → ∃ rs, Carries (mixKind P w) ws rs ∧ KV kvs rs
 | [], _, r => by rw [List.map_nil] at r; cases r; exact ⟨[], True.intro, .nil⟩
 | p :: kvs, _, r => by
  rw [List.map_cons] at r
  cases r with
  | @cons a b as bs h t =>
   obtain ⟨rs, c, q⟩ := carries_of (P := P) (w := w) t
   obtain ⟨b1, b2⟩ := b
   exact ⟨(p.1, b2) :: rs, ⟨kV_is h.1, rfl, c⟩, .cons ⟨rfl, h.2⟩ q⟩
def tDisp (trs : List (TE × TE)) : TE := fun σ H Q => ∀ p, H p = none → tPairs trs σ (upd H p (.dK [])) fun ps H2 => H2 p = some (.dK []) ∧ ∃ kvs : List (Key × V), ps = kvs.map (fun kv => (kV kv.1, kv.2)) ∧ kvs.length ≤ 15 ∧ Q (.ref p) (upd H2 p (.dK (mergeK [] kvs)))
theorem pe_disp {X : Cx} {pos : Pos} {keys : List (Option Expr)} {values : List Expr} {trs : List (TE × TE)} (h : PPs X pos keys values trs) (hall : keys.all (·.isSome) = true) (hl : keys.length = values.length) (h0 : keys ≠ [])
  (h15 : keys.length ≤ 15) : PE X (.Dict keys values pos) (tDisp trs) := by
 intro pins s σ H Q I q
 have hn := I.hok.fresh (Nat.le_refl s.heap.objs.size)
 have I1 := I.laid (a := s.heap.objs.size) (o := .dK []) (h' := s.heap.push { cls := .type "dict", data := .dict #[] }) (t' := s.toks) (fun _ _ q => Heap.get?_push_of_some _ q) (Nat.le_refl _) (dk_empty s.heap I.big)
 refine wpAny_Dict_walk (knd := mixKind X.prog X.w) hall hl h0 h15 (thn (h pins _ σ _ _ I1 (q _ hn)) fun ws s2 ⟨ps, H2, I2, rel, e, kvs, ep, lk, q2⟩ => ?_)
 subst ep
 obtain ⟨rs, c, rk⟩ := carries_of (P := X.prog) (w := X.w) rel
 obtain ⟨z, hd, vs0, r0, dd⟩ := dk_of I2.hok e
 cases r0
 refine ⟨rs, c, dd, fun h' dd' hs => ⟨.ref s.heap.objs.size, _, ?_, rfl, q2⟩⟩
 have hz : (mergeK [] kvs).length ≤ sizeLine := by
  have h1 := length_mergeK kvs []
  rw [List.length_nil] at h1
  rw [sizeLine_eq]; omega
 have he : ∃ q, h'.get? s.heap.objs.size = some q := let ⟨q, _, _, hq, _⟩ := dd'; ⟨q, hq⟩
 exact d_write I2 (by rw [e]; exact True.intro) hs he (dk_new hz hd (rk.merge .nil) dd')
structure M2 (X : Cx) (o : Expr) (m : Str) (apos : Pos) (e f : Expr) (cpos : Pos) : Prop where
 base : attributeBase o m X.env (eval o X.env) = eval o X.env
 few : ((backTo cpos (starEach [e, f] X.env)).all (fun x => !x.1) && (backToKw cpos (keywordEach [] X.env)).all (fun x => x.1.isSome)
  && decide (([e, f] : List Expr).length + ([] : List Keyword).length + (if ([] : List Keyword).isEmpty then 0 else 1) < 30)) = true
 line : (apos.endLine == cpos.line) = true
 trees : backTo cpos (starEach [e, f] X.env) = [(false, eval e X.env), (false, eval f X.env)]
def IsD (H : Hp) (a : Addr) : Prop := (∃ kvs, Rd H a (.dK kvs)) ∨ ∃ kvs, Rd H a (.dT kvs)
theorem isD_at {X : Cx} {pins : List (Addr × Obj)} {σ : St} {H : Hp} {s : Shared} {a : Addr} (I : Inv X pins σ H s) (d : IsD H a) :
  s.TypeIs (.ref a) "dict" ∧ (∀ b, Value.ref a = .ref b → ∃ ob, s.heap.get? b = some ob ∧ ob.dict = none) ∧ (a == sysModules) = false := by
 rcases d with ⟨kvs, e⟩ | ⟨kvs, e⟩
 ·obtain ⟨_, hd, vs, _, dd⟩ := dk_rd I.hok e
  refine ⟨dd.typeIs, fun b q => ?_, hd⟩
  cases q
  obtain ⟨ob, _, _, h1, h2, _⟩ := dd
  exact ⟨ob, h1, h2.2.1⟩
 ·obtain ⟨_, hd, xs, _, dd⟩ := dt_rd I.hok e
  refine ⟨dd.typeIs, fun b q => ?_, hd⟩
  cases q
  obtain ⟨ob, _, _, h1, h2, _⟩ := dd
  exact ⟨ob, h1, h2.2.1⟩
section
variable {X : Cx} {pins : List (Addr × Obj)} {σ : St} {H : Hp} {s : Shared} {a : Addr} {y d : V} {u r : Value} {o : Option V} {A : Around} {E : Value → Shared → Prop}
theorem d_get2 {Q : Value → Shared → Prop} (hu : A.units + 1 < cLine) (I : Inv X pins σ H s) (g : DGet H a y o) (ry : RelV y u) (rd : RelV d r) (h : ∀ w' s', Inv X pins σ H s' → RelV (o.getD d) w' → Q w' s') :
  wpAny (model X.prog X.w) A (call (.builtin "dict.get") [.ref a, u, r]) Q E s := by
 rcases g with ⟨kvs, k, e, ey, l⟩ | ⟨kvs, k, b, e, ey, eb, l⟩
 ·subst ey
  obtain ⟨z, hd, vs, rel, dd⟩ := dk_rd I.hok e
  refine call_meetsIn PySem.F.slot_dict_get dd.typeIs PySem.F.entry_dict_get (PySem.F.args_dict_get_3 _ _ _) (meets_dict_get_default (mixKind X.prog X.w) a (kV_is ry) hd r) ⟨_, dd.mapOf, h _ _ (I.tok _) ?_⟩
  rw [l]
  exact (rel.val k).getD rd
 ·subst ey
  cases (show u = Value.ref b from ry)
  obtain ⟨z, hd, xs, rel, dd⟩ := dt_rd I.hok e
  refine call_meetsIn PySem.F.slot_dict_get dd.typeIs PySem.F.entry_dict_get (PySem.F.args_dict_get_3 _ _ _) (meetsH_dict_get_default (tupleKind (mixKind X.prog X.w)) a b hd r) ⟨tupleKind_room_in1 hu, k, xs, key_of I.hok eb, dd, h _ _ (I.tok _) ?_⟩
  rw [l]
  exact (rel.val k).getD rd
end
def tDGet2 (td ty tx : TE) : TE := fun σ H Q => td σ H fun x H1 => ∃ a, x = .ref a ∧ IsD H1 a ∧ ty σ H1 fun y H2 => tx σ H2 fun z H3 => ∃ o, DGet H3 a y o ∧ Q (o.getD z) H3
section
variable {X : Cx} {o e f : Expr} {apos cpos : Pos} {td ty tx : TE}
theorem pe_dget2 (hu : X.A.units + 1 < cLine) (ho : PE X o td) (he : PE X e ty) (hf : PE X f tx) (m : M2 X o "get" apos e f cpos) : PE X (.Call (.Attribute o "get" apos) [e, f] [] cpos) (tDGet2 td ty tx) := by
 intro pins s σ H Q I h
 refine wpAny_Call_method m.base m.few m.line PySem.F.plainAttrs_dict PySem.F.slot_dict_get PySem.F.type_dict_get (thn (ho pins s σ H _ I h) fun u s1 ⟨x, H1, I1, rx, a, ex, d, q1⟩ => ?_)
 subst ex
 obtain rfl : u = Value.ref a := rx
 obtain ⟨t1, t2, _⟩ := isD_at I1 d
 refine ⟨t1, t2, ?_⟩
 rw [m.trees]
 refine Calls.callWith_builtin rfl (Calls.evalArgs_plain (Calls.spliced_cons (thn (he pins s1 σ H1 _ I1 q1) fun iv s2 ⟨y, H2, I2, ry, q2⟩ =>
  Calls.spliced_cons (thn (hf pins s2 σ H2 _ I2 q2) fun fv s3 ⟨z, H3, I3, rz, ov, g, q3⟩ => Calls.spliced_nil ?_))))
 exact d_get2 hu I3 g ry rz fun w' s4 I4 rw' => ⟨_, H3, I4, rw', q3⟩
end
section
variable {X : Cx} {pins : List (Addr × Obj)} {σ : St} {H : Hp} {s : Shared} {a : Addr} {kvs : List (Key × V)} {A : Around} {E : Value → Shared → Prop}
end
section
variable {X : Cx} {pins : List (Addr × Obj)} {σ : St} {H : Hp} {s : Shared} {a : Addr} {y : V} {u : Value} {A : Around} {E : Value → Shared → Prop}
end
end L2
namespace L2
open PySem PySem.Spec PyProof.Rows
section
variable {prog : Program} {w : World} {A : Around} {E : Value → Shared → Prop}
end
section
variable {X : Cx}
end
end L2
namespace L2
open PySem PySem.Spec PyProof.Rows
theorem boot_reversed5 : bootBuiltins "reversed" = some (.type "reversed") := by decide +kernel
section
variable {X : Cx} {pins : List (Addr × Obj)} {σ : St} {H : Hp} {s : Shared} {h' : Heap}
theorem Inv.turnedL {t' : Nat} {ch : List Addr} (I : Inv X pins σ H s) (k : ∀ b o, b ∉ ch → s.heap.get? b = some o → h'.get? b = some o) (hf : ∀ b ∈ ch, FpOk X pins H b) : Inv X pins σ H { s with heap := h', toks := t' } := by
 have nit : ∀ b u, H b = some u → b ∉ ch := fun b u e z => by
  have q := (hf b z).1
  rw [q] at e; cases e
 refine I.step (g' := s.gens) (d' := s.drawn) (ch := ch) (fun b hb => ⟨(hf b hb).2.2.2.1, (hf b hb).2.1, (hf b hb).2.2.2.2.1, (hf b hb).2.2.2.2.2⟩) (fun b o _ _ hc e _ => k b o hc e) (fun b o _ _ hc e _ => ⟨o.slots, k b o hc e⟩)
  (fun _ _ _ _ n => n) (fun b o hc e => ⟨o, k b o hc e⟩) (fun _ _ e => e) (fun _ _ _ e => e) (fun b ps e => ⟨#[], by rw [e]; simp⟩) (fun m hm => ?_) (fun b u e => ?_) I.bare
 ·obtain ⟨o, es, ep, ho, r⟩ := hm
  exact ⟨o, es, ep, k _ o (fun z => (hf _ z).2.1 rfl) ho, r⟩
 ·refine (I.hok b u e).stay (fun c v hc q => k c v ?_ q) (fun _ q => q) fun _ _ q => q
  rcases hc with z | z
  ·rw [z]; exact nit b u e
  ·exact nit c _ z
theorem Inv.turnedNew {t' : Nat} {ch : List Addr} {T : Addr} {ob : HO} (I : Inv X pins σ H s) (k : ∀ b o, b ∉ ch → s.heap.get? b = some o → h'.get? b = some o) (hf : ∀ b ∈ ch, FpOk X pins H b) (hT : s.heap.objs.size ≤ T)
  (new : ObjOk X.prog X.w (upd H T ob) h' T ob) : Inv X pins σ (upd H T ob) { s with heap := h', toks := t' } := by
 have hn : H T = none := I.hok.fresh hT
 have nit : ∀ b u, H b = some u → b ∉ ch := fun b u e z => by
  have q := (hf b z).1
  rw [q] at e; cases e
 refine I.step (g' := s.gens) (d' := s.drawn) (ch := ch) (fun b hb => ⟨(hf b hb).2.2.2.1, (hf b hb).2.1, (hf b hb).2.2.2.2.1, (hf b hb).2.2.2.2.2⟩) (fun b o _ _ hc e _ => k b o hc e) (fun b o _ _ hc e _ => ⟨o.slots, k b o hc e⟩)
  (fun b o _ e n => ?_) (fun b o hc e => ⟨o, k b o hc e⟩) (fun b xs e => ?_) (fun b o u e => ?_) (fun b ps e => ⟨#[], ?_⟩) (fun m hm => ?_) (fun b u e => ?_) I.bare
 ·rw [upd_ne (Nat.ne_of_lt (Nat.lt_of_lt_of_le (Heap.lt_size e) hT))]; exact n
 ·rw [upd_ne (ne_of_none e hn)]; exact e
 ·rw [upd_ne (ne_of_none e hn)]; exact e
 ·rw [upd_ne (ne_of_none e hn), e]; simp
 ·obtain ⟨o, es, ep, ho, r⟩ := hm
  exact ⟨o, es, ep, k _ o (fun z => (hf _ z).2.1 rfl) ho, r⟩
 ·by_cases hb : b = T
  ·subst hb
   rw [upd_same] at e
   cases e
   exact new
  ·rw [upd_ne hb] at e
   refine (I.hok b u e).stay (fun c v hc q => k c v ?_ q) (fun c q => by rw [upd_ne (ne_of_none q hn)]; exact q) fun c xs q => by rw [upd_ne (ne_of_none q hn)]; exact q
   rcases hc with z | z
   ·rw [z]; exact nit b u e
   ·exact nit c _ z
theorem Inv.lock {d : Addr} {u : HO} (I : Inv X pins σ H s) (h : H d = some u) (mu : Mut (some u)) : ∃ od, Inv X pins σ (upd H d (.frz od u)) s := by
 have x := I.hok d u h
 have ex : ∃ od, s.heap.get? d = some od := by
  cases u with
  | lst xs => obtain ⟨_, _, _, _, e⟩ := x; exact ⟨_, e⟩
  | dK kvs => obtain ⟨_, _, _, _, o, _, _, e, _⟩ := x; exact ⟨o, e⟩
  | dT kvs => obtain ⟨_, _, _, _, o, _, _, e, _⟩ := x; exact ⟨o, e⟩
  | set S n => obtain ⟨o, _, _, _, e, _⟩ := x; exact ⟨o, e⟩
  | ins C dx fs => obtain ⟨_, _, _, e, _⟩ := x; exact ⟨_, e⟩
  | ext φ => obtain ⟨_, ⟨_, e⟩, _⟩ := x; exact ⟨_, e⟩
  | _ => exact False.elim mu
 obtain ⟨od, e⟩ := ex
 have new : ObjOk X.prog X.w (upd H d (.frz od u)) s.heap d (.frz od u) := by
  refine ⟨e, x.stay (fun b v _ q => q) (fun b q => ?_) fun b xs q => ?_⟩
  ·rw [upd_ne (fun z => by rw [z, h] at q; cases q; exact mu)]; exact q
  ·rw [upd_ne (fun z => by rw [z, h] at q; cases q; exact mu)]; exact q
 exact ⟨od, I.write (x := d) (e := d) (t' := s.toks) (h' := s.heap) (by rw [h]; exact mu) (.inl rfl) (fun b v _ q => q) ⟨od, e⟩ new⟩
theorem Inv.nofrz {d : Addr} {u : HO} (I : Inv X pins σ H s) (h : H d = some u) (mu : Mut (some u)) : ∀ o' u', X.H_0 d ≠ some (.frz o' u') := fun o' u' e => by
 have q := I.base.frzs d o' u' e
 rw [h] at q
 cases q
 exact mu
theorem Inv.unlock {d : Addr} {od : Obj} {u : HO} (I : Inv X pins σ H s) (h : H d = some (.frz od u)) (hn : ∀ o' u', X.H_0 d ≠ some (.frz o' u')) : Inv X pins σ (upd H d u) s := by
 have neH : ∀ b o, H b = some o → (∀ o' u', o ≠ .frz o' u') → b ≠ d := fun b o e hne z => by
  rw [z, h] at e
  cases e
  exact hne _ _ rfl
 have neN : ∀ b, H b = none → b ≠ d := fun b e z => by rw [z, h] at e; cases e
 refine ⟨I.ok, I.os, I.bare, ⟨I.base.keep, I.base.slot, fun b o e n hx => ?_, I.base.there, fun b xs e => ?_, fun b o x e => ?_, fun b ps e => ?_⟩, I.loc, I.cell, ?_, fun x c e => ?_, fun p hp => ?_, fun b o e => ?_, I.len⟩
 ·rw [upd_ne (neN b (I.base.free b o e n hx))]; exact I.base.free b o e n hx
 ·have q := I.base.tups b xs e
  rw [upd_ne (neH b _ q (fun _ _ z => nomatch z))]; exact q
 ·have q := I.base.frzs b o x e
  rw [upd_ne (fun z => by rw [z] at e; exact hn _ _ e)]; exact q
 ·obtain ⟨m, q⟩ := I.base.tbls b ps e
  exact ⟨m, by rw [upd_ne (neH b _ q (fun _ _ z => nomatch z))]; exact q⟩
 ·rw [upd_ne (neN _ I.free)]; exact I.free
 ·rw [upd_ne (neN c (I.freeC x c e))]; exact I.freeC x c e
 ·obtain ⟨e, n, r⟩ := I.pin p hp
  exact ⟨e, by rw [upd_ne (neN _ n)]; exact n, r⟩
 ·by_cases hb : b = d
  ·rw [hb, upd_same] at e
   cases e
   rw [hb]
   obtain ⟨_, x⟩ := I.hok d _ h
   exact x.stay (fun c v _ q => q) (fun c q => by rw [upd_ne (neH c _ q (fun _ _ z => nomatch z))]; exact q) fun c xs q => by rw [upd_ne (neH c _ q (fun _ _ z => nomatch z))]; exact q
  ·rw [upd_ne hb] at e
   exact (I.hok b o e).stay (fun c v _ q => q) (fun c q => by rw [upd_ne (neH c _ q (fun _ _ z => nomatch z))]; exact q) fun c xs q => by rw [upd_ne (neH c _ q (fun _ _ z => nomatch z))]; exact q
end
def tLock (t : TS) : TS := fun D σ H => ∃ d u, H d = some u ∧ Mut (some u) ∧ ∀ od, t ⟨fun σ' H' => H' d = some (.frz od u) ∧ D.nx σ' (upd H' d u), fun v H' => H' d = some (.frz od u) ∧ D.rt v (upd H' d u), fun σ' H' => H' d = some (.frz od u) ∧ D.bk σ' (upd H' d u), fun σ' H' => H' d = some (.frz od u) ∧ D.ct σ' (upd H' d u)⟩ σ (upd H d (.frz od u))
def tLockE (t : TE) : TE := fun σ H Q => ∃ d u, H d = some u ∧ Mut (some u) ∧ ∀ od, t σ (upd H d (.frz od u)) fun v H' => H' d = some (.frz od u) ∧ Q v (upd H' d u)
section
variable {X : Cx}
theorem ps_lock {st : Stmt} {t : TS} (h : PS X st t) : PS X st (tLock t) := by
 intro pins s σ H D I hw
 obtain ⟨d, u, hd, mu, hw⟩ := hw
 obtain ⟨od, I1⟩ := I.lock hd mu
 refine thn (h pins s σ _ _ I1 (hw od)) fun f s1 q => ?_
 cases f with
 | next => obtain ⟨σ', H', I2, e, q⟩ := q; exact ⟨σ', _, I2.unlock e (I.nofrz hd mu), q⟩
 | brk => obtain ⟨σ', H', I2, e, q⟩ := q; exact ⟨σ', _, I2.unlock e (I.nofrz hd mu), q⟩
 | cont => obtain ⟨σ', H', I2, e, q⟩ := q; exact ⟨σ', _, I2.unlock e (I.nofrz hd mu), q⟩
 | ret v => obtain ⟨x, σ', H', I2, r, e, q⟩ := q; exact ⟨x, σ', _, I2.unlock e (I.nofrz hd mu), r, q⟩
theorem pe_lock {e : Expr} {t : TE} (h : PE X e t) : PE X e (tLockE t) := by
 intro pins s σ H Q I hw
 obtain ⟨d, u, hd, mu, hw⟩ := hw
 obtain ⟨od, I1⟩ := I.lock hd mu
 refine thn (h pins s σ _ _ I1 (hw od)) fun v s1 ⟨x, H1, I2, r, e2, q⟩ => ?_
 exact ⟨x, _, I2.unlock e2 (I.nofrz hd mu), r, q⟩
theorem pi_one {tg : Expr} {pins : List (Addr × Obj)} {σ : St} {H : Hp} {s : Shared} {R : It → Hp → Prop} {J : It} {tn : Nat → Heap → Prop} {tk : Nat} (I : Inv X pins σ H s) (o : Obj)
  (T : Turn X.prog X.w X.K tg J [s.heap.objs.size] s.heap.objs.size tn) (st : tn 0 (s.heap.push o)) (q : R J H) : PIE X pins σ tg R (.ref s.heap.objs.size) { s with heap := s.heap.push o, toks := tk } := by
 refine ⟨s.heap.objs.size, [s.heap.objs.size], tn, J, H, rfl, I.kept fun b ob e => Heap.get?_push_of_some _ e, T, st, fun b hb => ?_, q⟩
 have e : b = s.heap.objs.size := by simpa using hb
 subst e
 exact I.fpOk (Nat.le_refl _) (I.hok.fresh (Nat.le_refl _))
end
section
variable {X : Cx} {tg : Expr}
end
section
variable {X : Cx} {tg : Expr}
end
section
variable {prog : Program} {w : World} {A : Around} {E : Value → Shared → Prop} {s : Shared}
end
theorem kv_get {κ : Type} {kvs : List (κ × V)} {vs : List (κ × Value)} (h : KV kvs vs) : ∀ {i : Nat} {k : κ} {v : V}, kvs[i]? = some (k, v) → ∃ u, vs[i]? = some (k, u) ∧ RelV v u := by
 unfold KV at h
 induction h with
 | nil => intro i k v e; simp at e
 | @cons a b l₁ l₂ r t ih =>
  intro i k v e
  cases i with
  | zero =>
   simp only [List.getElem?_cons_zero, Option.some.injEq] at e
   subst e
   refine ⟨b.2, ?_, r.2⟩
   simp only [List.getElem?_cons_zero]
   exact congrArg some (Prod.ext r.1.symm rfl)
  | succ j =>
   simp only [List.getElem?_cons_succ] at e ⊢
   exact ih e
theorem paired_get {α β : Type} {G : α → β → Prop} {l₁ : List α} {l₂ : List β} (h : Paired G l₁ l₂) : ∀ {i : Nat} {a : α}, l₁[i]? = some a → ∃ b, l₂[i]? = some b ∧ G a b := by
 induction h with
 | nil => intro i a e; simp at e
 | @cons a b l₁ l₂ r t ih =>
  intro i a' e
  cases i with
  | zero =>
   simp only [List.getElem?_cons_zero, Option.some.injEq] at e
   subst e
   exact ⟨b, rfl, r⟩
  | succ j =>
   simp only [List.getElem?_cons_succ] at e ⊢
   exact ih e
theorem relV_key {k : Key} {u : Value} (h : keyIs k u = true) : RelV (kV k) u := by
 rcases keyIs_shape h with ⟨i, t, rfl, rfl⟩ | ⟨x, t, rfl, rfl⟩
 ·exact ⟨t, rfl⟩
 ·exact ⟨t, rfl⟩
section
variable {X : Cx} {pins : List (Addr × Obj)} {σ : St} {H : Hp} {s : Shared} {d : Addr} {o : Obj}
theorem Inv.frzK {kvs : List (Key × V)} (I : Inv X pins σ H s) (h : H d = some (.frz o (.dK kvs))) :
  (d == sysModules) = false ∧ s.heap.get? d = some o ∧ o.ExactDict ∧ ∃ (es : Array DictEntry) (ep : Nat) (vs : List (Key × Value)), o.data = .dict es ep ∧ es.size = kvs.length ∧ KV kvs vs ∧ s.heap.DictAt (mixKind X.prog X.w) d vs ep := by
 obtain ⟨hd, z, hs, vs, kv, o', es, ep, ho, hx, hdt, r⟩ := I.hok d _ h
 rw [hd] at ho
 cases ho
 refine ⟨hs, hd, hx, es, ep, vs, hdt, ?_, kv, o, es, hd, hx, hdt, r⟩
 have l1 := r.2.1.length
 have l2 : kvs.length = vs.length := Paired.length kv
 rw [Array.length_toList] at l1
 omega
end
def Iti (d : Addr) (o : Obj) (kvs : List (Key × V)) : It :=
 ⟨fun i H => H d = some (.frz o (.dK kvs)) ∧ i < kvs.length, fun i H x H' => ∃ T k v, kvs[i]? = some (k, v) ∧ x = .ref T ∧ H T = none ∧ H' = upd H T (.tup [kV k, v]), fun i H => H d = some (.frz o (.dK kvs)) ∧ kvs.length ≤ i⟩
theorem dict_ep {o : Obj} {es es' : Array DictEntry} {ep ep' : Nat} (h : o.data = .dict es ep) (h' : o.data = .dict es' ep') : es' = es ∧ ep' = ep := by
 rw [h] at h'
 cases h'
 exact ⟨rfl, rfl⟩
section
variable {P : Program} {w : World} {K : PySem.W.Frag} {tg : Expr} {d : Addr} {o : Obj} {es : Array DictEntry} {ep : Nat}
theorem turn_items {kvs : List (Key × V)} {elts : List Expr} {kk : Nat} {tpos : Pos} (it : Addr) (hod : o.data = .dict es ep) :
  Turn P w K (.Tuple elts kk tpos) (Iti d o kvs) [it] it (fun i h => ∃ ok ov, IsItemIter h it d i kvs.length ep ok ov) where
 mem := by simp
 obj := fun i h st b hb => by
  have e : b = it := by simpa using hb
  subst e
  obtain ⟨ok, ov, e⟩ := st
  exact ⟨_, e, fun v z => nomatch z⟩
 keep := fun i h h' st k => let ⟨ok, ov, e⟩ := st; ⟨ok, ov, k it (by simp) _ e⟩
 item := by
  intro X hP hw hK hc i pins s σ H E I hf st hg
  subst hP hw hK
  obtain ⟨hd, hi⟩ := hg
  obtain ⟨hs, hgd, hx, es', ep', vs, hdt, hsz, kv, hm⟩ := I.frzK hd
  obtain ⟨rfl, rfl⟩ := dict_ep hod hdt
  obtain ⟨⟨k, v⟩, hkv⟩ : ∃ p, kvs[i]? = some p := ⟨kvs[i], List.getElem?_eq_getElem hi⟩
  obtain ⟨u, hu, ru⟩ := kv_get kv hkv
  have hl : kvs.length = vs.length := Paired.length kv
  obtain ⟨ok, ov, he⟩ := st
  rw [hl] at he
  have hlt : it < s.heap.objs.size := Heap.lt_size he
  refine wpAny_pyNext_items_item he hm hu fun key h' hkey ho hT hz hk => ?_
  refine ⟨_, rfl, wpAny_letOwnedTupleGo_items (s := { s with heap := h' }) ho fun h'' he' sb => ?_⟩
  have hT2 : h''.get? s.heap.objs.size = some { cls := .type "tuple", data := .seq #[key, u] } := (sb.2 _ (Nat.ne_of_gt hlt)).trans hT
  have new : ObjOk X.prog X.w (upd H s.heap.objs.size (.tup [kV k, v])) h'' s.heap.objs.size (.tup [kV k, v]) :=
   ⟨by show 2 ≤ sizeLine; decide, [key, u], .cons (relV_key (show keyIs k key = true from hkey)) (.cons ru .nil), ⟨_, hT2, rfl, _, rfl⟩⟩
  have I1 : Inv X pins σ (upd H s.heap.objs.size (.tup [kV k, v])) { s with heap := h'' } :=
   I.turnedNew (t' := s.toks) (ch := [it]) (fun b ob hb e => (sb.2 b (by simpa using hb)).trans (hk b ob (by simpa using hb) e)) hf (Nat.le_refl _) new
  refine ⟨.ref s.heap.objs.size, _, I1, rfl, ⟨_, k, v, hkv, rfl, I.hok.fresh (Nat.le_refl _), rfl⟩, ⟨key, u, ?_⟩, fun b hb => ?_⟩
  ·rw [hl]; exact he'
  ·have e : b = it := by simpa using hb
   rw [e, upd_ne (Nat.ne_of_lt hlt)]
   exact (hf it (by simp)).1
 done := by
  intro X hP hw hK hc i pins s σ H E I hf st hg
  subst hP hw hK
  obtain ⟨hd, hi⟩ := hg
  obtain ⟨f0, f1, f2, f3, f4, f5⟩ := hf it (by simp)
  obtain ⟨hs, hgd, hx, es', ep', vs, hdt, hsz, kv, hm⟩ := I.frzK hd
  obtain ⟨rfl, rfl⟩ := dict_ep hod hdt
  have hl : kvs.length = vs.length := Paired.length kv
  obtain ⟨ok, ov, he⟩ := st
  rw [hl] at he
  exact wpAny_pyNext_items_end (I.ok.hd hc) he hm (List.getElem?_eq_none (by omega)) fun h' eb => ⟨rfl, I.turned (t' := s.toks) (fun b ob hb e => eb b ob hb e) f0 f1 f3 f4 f5⟩
 self := fun A i s Q E st h => let ⟨_, _, e⟩ := st; PySem.W.kcp_self e h
end
def iItems (td : TE) : TI := fun σ H R => td σ H fun x H1 => ∃ d o kvs, x = .ref d ∧ H1 d = some (.frz o (.dK kvs)) ∧ R (Iti d o kvs) H1
section
variable {X : Cx} {tg e : Expr} {td : TE} {apos cpos : Pos}
theorem pi_items {elts : List Expr} {kk : Nat} {tpos : Pos} (he : PE X e td) (hbase : attributeBase e "items" X.env (eval e X.env) = eval e X.env := by rfl) (hline : (apos.endLine == cpos.line) = true := by rfl) :
  PI X (.Tuple elts kk tpos) (.Call (.Attribute e "items" apos) [] [] cpos) (iItems td) := by
 intro pins s σ H R I h
 refine wpAny_Call_method (T := "dict") (id := "dict.items") hbase rfl hline F.plainAttrs_dict F.slot_dict_items F.type_dict_items (thn (he pins s σ H _ I h) fun u s1 ⟨x, H1, I1, rx, d, o, kvs, ex, hd, q⟩ => ?_)
 subst ex
 obtain rfl : u = Value.ref d := rx
 obtain ⟨hs, hgd, hx, es, ep, vs, hdt, hsz, kv, hm⟩ := I1.frzK hd
 have hl : kvs.length = vs.length := Paired.length kv
 refine ⟨hm.dictOf.typeIs, hm.dictOf.mapOf.noDict, ?_⟩
 have I2 : Inv X pins σ H1 { s1 with heap := s1.heap.push { cls := .type "dict_items", data := .fields #[.ref d] } } := I1.kept (t' := s1.toks) fun b ob q => Heap.get?_push_of_some _ q
 have fin : wpAny (model X.prog X.w) X.A (pyIter (.ref s1.heap.objs.size)) (PIE X pins σ (.Tuple elts kk tpos) R) X.xe { s1 with heap := s1.heap.push { cls := .type "dict_items", data := .fields #[.ref d] } } := by
  refine wpAny_pyIter_items (d := d) (knd := mixKind X.prog X.w) ⟨_, Heap.get?_push_size _ rfl, rfl, rfl⟩ (hm.push _) (pi_one (tk := s1.toks) I2 _ (turn_items _ hdt) ⟨.none, .none, ?_⟩ q)
  rw [hl]
  exact Heap.get?_push_size _ rfl
 show wpAny _ _ (callWith cpos (.builtin "dict.items") [.ref d] [] []) _ X.xe s1
 exact method_meetsIn F.slot_dict_items F.entry_dict_items rfl (PySem.evalArgs_none ⟨rfl, hm.dictOf.typeIs, F.args_dict_items_1 _, _, meets_dict_items (mixKind X.prog X.w) d hs, ⟨vs, hm.dictOf⟩, fin⟩)
end
def Ite (K : PySem.W.Frag) (a : Addr) : It :=
 ⟨fun i H => ∃ (xs : List V) (x : V), SqL K H a xs ∧ xs[i]? = some x, fun i H v H' => ∃ T x, v = .ref T ∧ H T = none ∧ H' = upd H T (.tup [.int (i : Nat), x]) ∧ ∀ xs, SqL K H a xs → xs[i]? = some x, fun i H => ∃ xs : List V, SqL K H a xs ∧ xs.length ≤ i⟩
theorem turn_enum {P : Program} {w : World} {K : PySem.W.Frag} {elts : List Expr} {kk : Nat} {tpos : Pos} (a e it : Addr) :
  Turn P w K (.Tuple elts kk tpos) (Ite K a) [e, it] e (fun i h => (∃ old, IsEnum h e it ((i : Nat) : Int) old) ∧ h.IsListIter it a i ∧ e ≠ it) where
 mem := by simp
 obj := fun i h st b hb => by
  obtain ⟨⟨old, he⟩, ⟨o, ho, hc, hd⟩, _⟩ := st
  have e' : b = e ∨ b = it := by simpa using hb
  rcases e' with z | z
  ·rw [z]; exact ⟨_, he, fun v q => nomatch q⟩
  ·rw [z]; exact ⟨o, ho, fun v q => by rw [hd] at q; cases q⟩
 keep := fun i h h' st k => let ⟨⟨old, he⟩, hi, hne⟩ := st; ⟨⟨old, k e (by simp) _ he⟩, hi.at fun o q => k it (by simp) o q, hne⟩
 item := by
  intro X hP hw hK hc i pins s σ H E I hf st hg
  subst hP hw hK
  obtain ⟨⟨old, he⟩, hit, hne⟩ := st
  obtain ⟨xs, x, hq, hx⟩ := hg
  obtain ⟨its, rv, p, hz⟩ := I.list hq
  obtain ⟨u, hu, ru⟩ := rv.get hx
  have hel : e < s.heap.objs.size := Heap.lt_size he
  have hil : it < s.heap.objs.size := by obtain ⟨_, q, _⟩ := hit; exact Heap.lt_size q
  refine wpAny_pyNext_enum_item he hit p.isList (x := u) (by simpa using hu) hne fun h' ho hit' hT hsz hk => ?_
  refine ⟨_, rfl, wpAny_letOwnedTupleGo_enum (s := { s with heap := h', toks := s.toks + 1 }) ho fun h'' he' sb => ?_⟩
  have hT2 : h''.get? s.heap.objs.size = some { cls := .type "tuple", data := .seq #[.int i s.toks, u] } := (sb.2 _ (Nat.ne_of_gt hel)).trans hT
  have new : ObjOk X.prog X.w (upd H s.heap.objs.size (.tup [.int (i : Nat), x])) h'' s.heap.objs.size (.tup [.int (i : Nat), x]) :=
   ⟨by show 2 ≤ sizeLine; decide, [.int i s.toks, u], .cons ⟨_, rfl⟩ (.cons ru .nil), ⟨_, hT2, rfl, _, rfl⟩⟩
  have I1 : Inv X pins σ (upd H s.heap.objs.size (.tup [.int (i : Nat), x])) { s with heap := h'', toks := s.toks + 1 } :=
   I.turnedNew (ch := [e, it]) (fun b ob hb q => (sb.2 b (fun z => hb (by simp [z]))).trans (hk b ob (fun z => hb (by simp [z])) (fun z => hb (by simp [z])) q)) hf (Nat.le_refl _) new
  refine ⟨.ref s.heap.objs.size, _, I1, rfl, ⟨_, x, rfl, I.hok.fresh (Nat.le_refl _), rfl, fun ys hy => by rw [I.list_inj hy hq]; exact hx⟩, ⟨⟨u, ?_⟩, hit'.at fun o q => (sb.2 it (Ne.symm hne)).trans q, hne⟩, fun b hb => ?_⟩
  ·have e1 : ((i + 1 : Nat) : Int) = (i : Int) + 1 := by omega
   rw [e1]; exact he'
  ·have hb' : b < s.heap.objs.size := by
    have e' : b = e ∨ b = it := by simpa using hb
    rcases e' with z | z
    ·rw [z]; exact hel
    ·rw [z]; exact hil
   rw [upd_ne (Nat.ne_of_lt hb')]
   exact (hf b hb).1
 done := by
  intro X hP hw hK hc i pins s σ H E I hf st hg
  subst hP hw hK
  obtain ⟨⟨old, he⟩, hit, hne⟩ := st
  obtain ⟨xs, hq, hx⟩ := hg
  obtain ⟨its, rv, p, hz⟩ := I.list hq
  obtain ⟨f0, f1, f2, f3, f4, f5⟩ := hf it (by simp)
  have hl := rv.length
  exact wpAny_pyNext_enum_end (I.ok.hd hc) he hit p.isList (by simp; omega) fun h' eb => ⟨rfl, I.turned (t' := s.toks) (fun b o hb q => eb b o hb q) f0 f1 f3 f4 f5⟩
 self := fun A i s Q E st h => let ⟨⟨_, he⟩, _⟩ := st; wpAny_pyIter_enum he h
def iEnum (K : PySem.W.Frag) (ta : TA) : TI := fun σ H R => ta σ H fun vs H1 => ∃ a xs, vs = [.ref a] ∧ SqL K H1 a xs ∧ R (Ite K a) H1
theorem pi_enum {X : Cx} {e : Expr} {ta : TA} {p pos tpos : Pos} {elts : List Expr} {kk : Nat} (hg : Gl X "enumerate") (hm : X.mg "enumerate" = none) (ha : PA X [e] ta) (hs : starEach [e] X.env = [(false, eval e X.env)] := by rfl) :
  PI X (.Tuple elts kk tpos) (.Call (.Name "enumerate" p) [e] [] pos) (iEnum X.K ta) := by
 intro pins s σ H R I h
 refine Call_ (ld_blt I hg hm boot_enumerate (PyProof.Rows.callWith_type1 (thn (ha pos pins s σ H _ I h) fun us s1 ⟨vs, H1, I1, r1, q1⟩ => ?_) hs rfl))
 obtain ⟨a, xs, ex, hq, q⟩ := q1
 subst ex
 cases r1 with
 | cons r rr =>
  cases rr
  cases r
  obtain ⟨its, rv, p', hz⟩ := I1.list hq
  refine call_enumerate_list p'.isList fun h' he hit hsz hk => wpAny_pyIter_enum he ?_
  have I2 : Inv X pins σ H1 { s1 with heap := h' } := I1.kept (t' := s1.toks) hk
  refine ⟨s1.heap.objs.size + 1, [s1.heap.objs.size + 1, s1.heap.objs.size], _, _, H1, rfl, I2, turn_enum a (s1.heap.objs.size + 1) s1.heap.objs.size, ⟨⟨.none, he⟩, hit, Nat.succ_ne_self _⟩, fun b hb => ?_, q⟩
  have e' : b = s1.heap.objs.size + 1 ∨ b = s1.heap.objs.size := by simpa using hb
  have hle : s1.heap.objs.size ≤ b := by
   rcases e' with z | z
   ·rw [z]; exact Nat.le_add_right _ _
   ·rw [z]; exact Nat.le_refl _
  exact I1.fpOk hle (I1.hok.fresh hle)
theorem boot_zip5 : bootBuiltins "zip" = some (.type "zip") := by decide +kernel
def Itz (K : PySem.W.Frag) (a b : Addr) : It :=
 ⟨fun i H => ∃ (xs ys : List V) (x y : V), SqL K H a xs ∧ SqL K H b ys ∧ xs[i]? = some x ∧ ys[i]? = some y,
  fun i H v H' => ∃ T x y, v = .ref T ∧ H T = none ∧ H' = upd H T (.tup [x, y]) ∧ (∀ xs, SqL K H a xs → xs[i]? = some x) ∧ ∀ ys, SqL K H b ys → ys[i]? = some y,
  fun i H => ∃ xs ys : List V, SqL K H a xs ∧ SqL K H b ys ∧ (xs.length ≤ i ∨ ys.length ≤ i)⟩
theorem turn_zip {P : Program} {w : World} {K : PySem.W.Frag} {elts : List Expr} {kk : Nat} {tpos : Pos} {a b z TI TO i1 i2 : Addr} (D : ZipApart z TI TO i1 i2 a b) :
  Turn P w K (.Tuple elts kk tpos) (Itz K a b) [z, TI, TO, i1, i2] z (fun i h => IsZip h z TI TO .none ∧ IsPair h TI (.ref i1) (.ref i2) ∧ (∃ x y, IsPair h TO x y) ∧ h.IsListIter i1 a i ∧ h.IsListIter i2 b i) where
 mem := by simp
 obj := fun i h st c hc => by
  obtain ⟨hz, hTI, ⟨x, y, hTO⟩, ⟨o1, e1, _, d1⟩, ⟨o2, e2, _, d2⟩⟩ := st
  have e' : c = z ∨ c = TI ∨ c = TO ∨ c = i1 ∨ c = i2 := by simpa using hc
  rcases e' with q | q | q | q | q
  ·rw [q]; exact ⟨_, hz, fun v q => nomatch q⟩
  ·rw [q]; exact ⟨_, hTI, fun v q => nomatch q⟩
  ·rw [q]; exact ⟨_, hTO, fun v q => nomatch q⟩
  ·rw [q]; exact ⟨o1, e1, fun v q => by rw [d1] at q; cases q⟩
  ·rw [q]; exact ⟨o2, e2, fun v q => by rw [d2] at q; cases q⟩
 keep := fun i h h' st k => by
  obtain ⟨hz, hTI, ⟨x, y, hTO⟩, h1, h2⟩ := st
  exact ⟨k z (by simp) _ hz, k TI (by simp) _ hTI, ⟨x, y, k TO (by simp) _ hTO⟩, h1.at fun o q => k i1 (by simp) o q, h2.at fun o q => k i2 (by simp) o q⟩
 item := by
  intro X hP hw hK hc i pins s σ H E I hf st hg
  subst hP hw hK
  obtain ⟨hz, hTI, ⟨x0, y0, hTO⟩, h1, h2⟩ := st
  obtain ⟨xs, ys, x, y, hqx, hqy, hx, hy⟩ := hg
  obtain ⟨its, rv, p, _⟩ := I.list hqx
  obtain ⟨its2, rv2, p2, _⟩ := I.list hqy
  obtain ⟨u, hu, ru⟩ := rv.get hx
  obtain ⟨u2, hu2, ru2⟩ := rv2.get hy
  have hzl : z < s.heap.objs.size := Heap.lt_size hz
  refine wpAny_pyNext_zip_item D hz hTI hTO h1 h2 p.isList p2.isList (x := u) (y := u2) (by simpa using hu) (by simpa using hu2) fun h' z' TO' h1' h2' hT hsz hk => ?_
  refine ⟨_, rfl, wpAny_letOwnedTupleGo_zip (s := { s with heap := h' }) z' fun h'' z'' sb => ?_⟩
  have hT2 : h''.get? s.heap.objs.size = some { cls := .type "tuple", data := .seq #[u, u2] } := (sb.2 _ (Nat.ne_of_gt hzl)).trans hT
  have new : ObjOk X.prog X.w (upd H s.heap.objs.size (.tup [x, y])) h'' s.heap.objs.size (.tup [x, y]) :=
   ⟨by show 2 ≤ sizeLine; decide, [u, u2], .cons ru (.cons ru2 .nil), ⟨_, hT2, rfl, _, rfl⟩⟩
  have I1 : Inv X pins σ (upd H s.heap.objs.size (.tup [x, y])) { s with heap := h'' } :=
   I.turnedNew (t' := s.toks) (ch := [z, TI, TO, i1, i2]) (fun c o hb q => (sb.2 c (fun q' => hb (by simp [q']))).trans (hk c o (fun q' => hb (by simp [q'])) (fun q' => hb (by simp [q'])) (fun q' => hb (by simp [q'])) (fun q' => hb (by simp [q'])) q)) hf (Nat.le_refl _) new
  refine ⟨.ref s.heap.objs.size, _, I1, rfl, ⟨_, x, y, rfl, I.hok.fresh (Nat.le_refl _), rfl, fun l hl => by rw [I.list_inj hl hqx]; exact hx, fun l hl => by rw [I.list_inj hl hqy]; exact hy⟩, ⟨z'', ?_, ⟨u, u2, ?_⟩, ?_, ?_⟩, fun c hcm => ?_⟩
  ·exact (sb.2 _ D.TIz).trans (hk _ _ D.TIz D.TITO D.TIi1 D.TIi2 hTI)
  ·exact (sb.2 _ D.TOz).trans TO'
  ·exact h1'.at fun o q => (sb.2 _ D.i1z).trans q
  ·exact h2'.at fun o q => (sb.2 _ D.i2z).trans q
  ·have hlt : c < s.heap.objs.size := by
    have e' : c = z ∨ c = TI ∨ c = TO ∨ c = i1 ∨ c = i2 := by simpa using hcm
    rcases e' with q | q | q | q | q
    ·rw [q]; exact hzl
    ·rw [q]; exact Heap.lt_size hTI
    ·rw [q]; exact Heap.lt_size hTO
    ·rw [q]; obtain ⟨_, e1, _⟩ := h1; exact Heap.lt_size e1
    ·rw [q]; obtain ⟨_, e2, _⟩ := h2; exact Heap.lt_size e2
   rw [upd_ne (Nat.ne_of_lt hlt)]
   exact (hf c hcm).1
 done := by
  intro X hP hw hK hc i pins s σ H E I hf st hg
  subst hP hw hK
  obtain ⟨hz, hTI, ⟨x0, y0, hTO⟩, h1, h2⟩ := st
  obtain ⟨xs, ys, hqx, hqy, hend⟩ := hg
  obtain ⟨its, rv, p, _⟩ := I.list hqx
  obtain ⟨its2, rv2, p2, _⟩ := I.list hqy
  have l1 := rv.length
  have l2 := rv2.length
  have he : its.toArray[i]? = none ∨ its2.toArray[i]? = none := by
   rcases hend with q | q
   ·exact .inl (by simp; omega)
   ·exact .inr (by simp; omega)
  exact wpAny_pyNext_zip_end (I.ok.hd hc) D hz hTI hTO h1 h2 p.isList p2.isList he fun h' hk => ⟨rfl, I.turnedL (t' := s.toks) (ch := [z, TI, TO, i1, i2]) (fun c o hb q =>
   hk c o (fun q' => hb (by simp [q'])) (fun q' => hb (by simp [q'])) (fun q' => hb (by simp [q'])) (fun q' => hb (by simp [q'])) q) hf⟩
 self := fun A i s Q E st h => wpAny_pyIter_zip st.1 h
def iZip (K : PySem.W.Frag) (ta : TA) : TI := fun σ H R => ta σ H fun vs H1 => ∃ a b xs ys, vs = [.ref a, .ref b] ∧ SqL K H1 a xs ∧ SqL K H1 b ys ∧ R (Itz K a b) H1
theorem pi_zip {X : Cx} {e e2 : Expr} {ta : TA} {p pos tpos : Pos} {elts : List Expr} {kk : Nat} (hg : Gl X "zip") (hm : X.mg "zip" = none) (ha : PA X [e, e2] ta)
  (hs : starEach [e, e2] X.env = (false, eval e X.env) :: starEach [e2] X.env := by rfl) (hpl : (backTo pos (starEach [e2] X.env)).any (·.1) = false := by rfl) :
  PI X (.Tuple elts kk tpos) (.Call (.Name "zip" p) [e, e2] [] pos) (iZip X.K ta) := by
 intro pins s σ H R I h
 refine Call_ (ld_blt I hg hm boot_zip5 (PyProof.Rows.callWith_type1 (thn (ha pos pins s σ H _ I h) fun us s1 ⟨vs, H1, I1, r1, q1⟩ => ?_) hs hpl))
 obtain ⟨a, b, xs, ys, ex, hqx, hqy, q⟩ := q1
 subst ex
 cases r1 with
 | cons r rr =>
  cases rr with
  | cons r' rr =>
   cases rr
   cases r
   cases r'
   obtain ⟨its, rv, p1, _⟩ := I1.list hqx
   obtain ⟨its2, rv2, p2, _⟩ := I1.list hqy
   have la : a < s1.heap.objs.size := p1.lt
   have lb : b < s1.heap.objs.size := p2.lt
   refine call_zip_2 p1.isList p2.isList fun h' hz hTI hTO h1 h2 hsz hk => wpAny_pyIter_zip hz ?_
   have I2 : Inv X pins σ H1 { s1 with heap := h' } := I1.kept (t' := s1.toks) hk
   refine ⟨s1.heap.objs.size + 4, [s1.heap.objs.size + 4, s1.heap.objs.size + 2, s1.heap.objs.size + 3, s1.heap.objs.size, s1.heap.objs.size + 1], _, _, H1, rfl, I2, turn_zip (PySem.W.ktu_apart s1.heap.objs.size a b la lb), ⟨hz, hTI, ⟨_, _, hTO⟩, h1, h2⟩, fun c hcm => ?_, q⟩
   have e' : c = s1.heap.objs.size + 4 ∨ c = s1.heap.objs.size + 2 ∨ c = s1.heap.objs.size + 3 ∨ c = s1.heap.objs.size ∨ c = s1.heap.objs.size + 1 := by simpa using hcm
   have hle : s1.heap.objs.size ≤ c := by
    rcases e' with z | z | z | z | z
    ·rw [z]; exact Nat.le_add_right _ _
    ·rw [z]; exact Nat.le_add_right _ _
    ·rw [z]; exact Nat.le_add_right _ _
    ·rw [z]; exact Nat.le_refl _
    ·rw [z]; exact Nat.le_add_right _ _
   exact I1.fpOk hle (I1.hok.fresh hle)
end L2
section
namespace Bits
open PySem PyProof.Rows
theorem bitOr_pp {x y : Int} (hx : 0 ≤ x) (hy : 0 ≤ y) : Builtin.bitOr x y = ((x.toNat ||| y.toNat : Nat) : Int) := by
 have e := nat_or_add_and x.toNat y.toNat
 rw [bitOr_and, bitAnd_pp hx hy]
 omega
end Bits
end
section
namespace TL
open PySem PySem.Builtin PySem.Builtin.Str PySem.StrLaws
end TL
end
namespace L2
open PySem PySem.Spec PyProof.Rows
section
variable {X : Cx} {pins : List (Addr × Obj)} {σ : St} {H : Hp} {s : Shared} {Q : VK}
end
section
variable {X : Cx}
end
section
variable {X : Cx} {o e : Expr} {to te : TE}
end
end L2
namespace L2
open PySem PySem.Spec PyProof.Rows
section
variable {X : Cx}
end
end L2
namespace Att
open PySem PySem.W PySem.Calls PyProof.Rows
section
variable {prog : Program} {w : World} {A : Around} {E : Value → Shared → Prop} {s : Shared} {K : Frag}
end
end Att
namespace L2
open PySem PySem.Spec PyProof.Rows
end L2
namespace L2
open PySem PySem.Spec PyProof.Rows
end L2
namespace L2
open PySem PySem.Spec PyProof.Rows
def inClass (s : Stmt) (j : Nat) : Stmt := match s with
 | .ClassDef _ _ _ body _ _ _ _ _ _ _ => body.getD j (.Pass ⟨0, 0, 0, 0⟩)
 | _ => .Pass ⟨0, 0, 0, 0⟩
def defArgs (s : Stmt) : Arguments := match s with
 | .FunctionDef _ a _ _ _ _ _ _ _ _ => a
 | _ => { posonlyargs := [], args := [], vararg := none, kwonlyargs := [], kw_defaults := [], kwarg := none, defaults := [] }
def defBody (s : Stmt) : List Stmt := match s with
 | .FunctionDef _ _ b _ _ _ _ _ _ _ => b
 | _ => []
def defScope (s : Stmt) : Scope := match s with
 | .FunctionDef _ _ _ _ _ _ sc _ _ _ => sc
 | _ => { kind := .function, names := [], isGenerator := false, isCoroutine := false }
abbrev CX0 : CXT := fun _ _ _ _ _ _ => False
abbrev E0 : XK := fun _ _ _ => False
theorem pass0 {X : Cx} : Passes CX0 X E0 := fun _ _ _ _ _ _ _ h => h.elim
structure Fun (K : PySem.W.Frag) (x qual : Str) (st : Stmt) (f : Addr) (fd : FuncData) : Prop where
 ex : ∃ (oc : Value) (od : Option Addr) (kV doc pm : Value) (an : Option Addr) (cdv ct : Value) (osl : Array (Option Value)),
  fd = PySem.W.fnOf x qual (defArgs st) (defBody st) (defScope st) .none kV doc pm an cdv ct ∧ K.lookup f = some ⟨oc, od, .func fd, osl⟩ ∧ PySem.W.codeIn K cdv qual = true
 kp : PySem.W.keepIn K (.ref f) = true
section
variable {P : Program} {w : World} {K : PySem.W.Frag} {mg : Str → Option Value} {base : Heap}
theorem Fun.ok {x qual : Str} {st : Stmt} {f : Addr} {fd : FuncData} {N ps : List Str} {k : Nat} {sp : Sp} (F : Fun K x qual st f fd) (S : FnScope N ps (defScope st)) (len : ∀ vs H Q E, sp vs H Q E → vs.length = ps.length)
  (hbody : ∀ (cdv : Value) (A : Around) (outer : List Env) (s : Shared) (H : Hp) (vs : List V) (Q : VK) (E : XK), Room k (A.deeper (envOfC qual (defScope st) s.heap.objs.size f cdv)) → sp vs H Q E →
   ∃ t, PSs (cxOf CX0 P w K mg base N qual (defScope st) f cdv A outer s H E).nox (defBody st) t ∧ t { nx := fun _ H' => Q .non H', rt := Q } (start N vs) H) : FnOk P w K mg base CX0 (k + 1) f fd ps sp := by
 obtain ⟨oc, od, kV, doc, pm, an, cdv, ct, osl, rfl, lk, hcd⟩ := F.ex
 refine fn_of lk hcd S len fun A outer s H vs Q E hr hsp => ?_
 obtain ⟨t, h, q⟩ := hbody cdv A outer s H vs Q E hr hsp
 exact ⟨t, h.nox, q⟩
theorem Fun.binds {x qual : Str} {st : Stmt} {f : Addr} {fd : FuncData} {ps : List Str} (F : Fun K x qual st f fd)
  (h : ∀ (kV doc pm : Value) (an : Option Addr) (cdv ct : Value) (us : List Value), us.length = ps.length → bindArgs (PySem.W.fnOf x qual (defArgs st) (defBody st) (defScope st) .none kV doc pm an cdv ct) ⟨us, []⟩ = pure (ps.zip us)) : Binds K fd ps [] := by
 obtain ⟨oc, od, kV, doc, pm, an, cdv, ct, osl, rfl, lk, hcd⟩ := F.ex
 exact .all (h kV doc pm an cdv ct)
theorem fun_mk {x qual : Str} {st : Stmt} {f : Addr} {oc : Value} {od an : Option Addr} {osl : Array (Option Value)} {kV doc pm cdv ct : Value} (l : K.lookup f = some ⟨oc, od, .func (PySem.W.fnOf x qual (defArgs st) (defBody st) (defScope st) .none kV doc pm an cdv ct), osl⟩)
  (c : PySem.W.codeIn K cdv qual = true) (k : PySem.W.keepIn K (.ref f) = true) : Fun K x qual st f (PySem.W.fnOf x qual (defArgs st) (defBody st) (defScope st) .none kV doc pm an cdv ct) := ⟨⟨oc, od, kV, doc, pm, an, cdv, ct, osl, rfl, l, c⟩, k⟩
end
theorem hu_of {A : Around} {k : Nat} (hr : Room k A) : A.units + 1 < cLine := Nat.lt_of_le_of_lt (Nat.add_le_add_left (by decide : 1 ≤ 64) _) hr.units
theorem small1000 {n : Nat} (h : n ≤ 1000) : n < sizeLine := Nat.lt_of_le_of_lt h (by decide)
section
variable {X : Cx}
theorem pv (i : Nat) {x : Str} {pos : Pos} (hN : X.N[i]? = some x := by rfl) (hv : Vis X.env.scope x := by first | exact Or.inl rfl | exact Or.inr (Or.inl rfl) | exact Or.inr (Or.inr rfl)) (hd : (x == ("__debug__" : Str)) = false := by decide)
  (hcd : (x == ("__classdict__" : Str)) = false := by decide) : PE X (.Name x pos) (tVar i) := pe_var hN hv hd hcd
end
theorem iteF {A B : Prop} (h : B) : if false = true then A else B := by
 rw [if_neg Bool.false_ne_true]
 exact h
theorem iteT {A B : Prop} (h : A) : if true = true then A else B := by
 rw [if_pos rfl]
 exact h
def Same (H H' : Hp) : Prop := ∀ b o, H b = some o → H' b = some o
theorem Same.refl (H : Hp) : Same H H := fun _ _ h => h
theorem Same.trans {H H1 H2 : Hp} (a : Same H H1) (b : Same H1 H2) : Same H H2 := fun c o h => b c o (a c o h)
theorem Same.free {H H' : Hp} (e : Same H H') {l : Addr} (h : H' l = Option.none) : H l = Option.none := by
 cases q : H l with
 | none => rfl
 | some o =>
  rw [e l o q] at h
  cases h
theorem Same.seq {K : PySem.W.Frag} {H H' : Hp} {a : Addr} {xs : List V} (e : Same H H') (h : SqL K H a xs) : SqL K H' a xs := by
 rcases h with (h | ⟨o, h⟩) | h
 ·exact .inl (.inl (e _ _ h))
 ·exact .inl (.inr ⟨o, e _ _ h⟩)
 ·exact .inr h
section
variable {κ : Type} [DecidableEq κ]
end
theorem Same.made {H H1 : Hp} {x dx C : Addr} (nx : H x = Option.none) (nd : H dx = Option.none) (k : ∀ b o, (upd (upd H dx (.own x)) x (.ins C dx [])) b = some o → b ≠ x → H1 b = some o) : Same H H1 := fun b o e =>
 k b o (by rw [upd_ne (ne_of_none e nx), upd_ne (ne_of_none e nd)]; exact e) (ne_of_none e nx)
end L2
section
set_option Elab.async false
set_option linter.all false
set_option maxRecDepth 100000
set_option maxHeartbeats 2000000
namespace L2
open PySem PySem.Spec PyProof.Rows
open PySem.W (WData Codec OpenSpec Well WellAll ReadsW ReadsAllW)
/-! ### an answer as data -/
mutual
/-- x stands for the datum d, lists and tuples all the way -/
inductive Dw (K : PySem.W.Frag) (H : Hp) : V → WData → Prop
 | non : Dw K H .non .none
 | bl (b : Bool) : Dw K H (.bl b) (.bool b)
 | int (i : Int) : Dw K H (.int i) (.int i)
 | str (x : Str) : Dw K H (.str x) (.str x)
 | byt (b : Array UInt8) : Dw K H (.byt b) (.bytes b.toList)
 | lst {a : Addr} {xs : List V} {ds : List WData} : SqL K H a xs → DwAll K H xs ds → Dw K H (.ref a) (.list ds)
 | tup {a : Addr} {xs : List V} {ds : List WData} : SqT K H a xs → DwAll K H xs ds → Dw K H (.ref a) (.tuple ds)
inductive DwAll (K : PySem.W.Frag) (H : Hp) : List V → List WData → Prop
 | nil : DwAll K H [] []
 | cons {v : V} {vs : List V} {d : WData} {ds : List WData} : Dw K H v d → DwAll K H vs ds → DwAll K H (v :: vs) (d :: ds)
end
theorem dw_ints {K : PySem.W.Frag} {H : Hp} : ∀ ns : List Int, DwAll K H (ns.map V.int) (ns.map WData.int)
 | [] => .nil
 | n :: r => .cons (.int n) (dw_ints r)
theorem ints_dw {K : PySem.W.Frag} {H : Hp} : ∀ (ns : List Int) (xs : List V), DwAll K H xs (ns.map WData.int) → xs = ns.map V.int
 | [], xs, h => by
  cases h
  rfl
 | n :: r, xs, h => by
  cases h with
  | cons h1 h2 =>
   cases h1
   rw [ints_dw r _ h2] <;> rfl
section
variable {P : Program} {w : World} {K : PySem.W.Frag} {H : Hp} {h : Heap} {R : PySem.W.WRecords} {cl : Str → Option Addr}
theorem sqL_at {a : Addr} {xs : List V} (hok : HOk P w H h) (KX : K.In h) (q : SqL K H a xs) : ∃ (its : List Value) (o : Obj) (n : Nat), Vals xs its ∧ h.get? a = some o ∧ o.cls = .type "list" ∧ o.data = .seq its.toArray n := by
 rcases q with q | ⟨o, its, n, e, hc, _, hd, _, hv⟩
 ·obtain ⟨_, its, n, hv, e⟩ := (show ObjOk P w H h a (.lst xs) from q.ok hok)
  exact ⟨its, _, n, hv, e, rfl, rfl⟩
 ·exact ⟨its.toList, o, n, hv, KX _ _ e, hc, by simp [hd]⟩
theorem sqT_at {a : Addr} {xs : List V} (hok : HOk P w H h) (KX : K.In h) (q : SqT K H a xs) : ∃ (its : List Value) (o : Obj) (n : Nat), Vals xs its ∧ h.get? a = some o ∧ o.cls = .type "tuple" ∧ o.data = .seq its.toArray n := by
 rcases q with q | ⟨o, its, n, e, hc, hd, _, hv⟩
 ·obtain ⟨_, its, hv, o, e, hc, n, hd⟩ := (show ObjOk P w H h a (.tup xs) from q.ok hok)
  exact ⟨its, o, n, hv, e, hc, hd⟩
 ·exact ⟨its.toList, o, n, hv, KX _ _ e, hc, by simp [hd]⟩
mutual
theorem Dw.reads (hok : HOk P w H h) (KX : K.In h) : ∀ (d : WData) (v : V) (u : Value), Dw K H v d → RelV v u → ∃ as, ReadsW R cl h u d as
 | .none, _, _, x, r => by
  cases x
  cases r
  exact ⟨_, ReadsW.none⟩
 | .bool b, _, _, x, r => by
  cases x
  cases r
  exact ⟨_, ReadsW.bool b⟩
 | .int i, _, _, x, r => by
  cases x
  obtain ⟨t, rfl⟩ := r
  exact ⟨_, ReadsW.int i t⟩
 | .str s, _, _, x, r => by
  cases x
  obtain ⟨t, rfl⟩ := r
  exact ⟨_, ReadsW.str s t⟩
 | .bytes b, _, _, x, r => by
  cases x
  obtain ⟨t, rfl⟩ := r
  exact ⟨_, ReadsW.bytes _ t⟩
 | .list ds, _, _, x, r => by
  cases x with
  | lst hs ha =>
   cases r
   obtain ⟨its, o, n, rv, ho, hc, hd⟩ := sqL_at hok KX hs
   obtain ⟨as, hr⟩ := Dw.readsAll hok KX ds _ its ha rv
   exact ⟨_, ReadsW.list ho hc hd hr⟩
 | .tuple ds, _, _, x, r => by
  cases x with
  | tup hs ha =>
   cases r
   obtain ⟨its, o, n, rv, ho, hc, hd⟩ := sqT_at hok KX hs
   obtain ⟨as, hr⟩ := Dw.readsAll hok KX ds _ its ha rv
   exact ⟨_, ReadsW.tuple ho hc hd hr⟩
 | .float _, _, _, x, _ => by cases x
 | .dict _, _, _, x, _ => by cases x
 | .bytearray _, _, _, x, _ => by cases x
 | .set _, _, _, x, _ => by cases x
 | .frozenset _, _, _, x, _ => by cases x
 | .obj _ _, _, _, x, _ => by cases x
theorem Dw.readsAll (hok : HOk P w H h) (KX : K.In h) : ∀ (ds : List WData) (vs : List V) (us : List Value), DwAll K H vs ds → Vals vs us → ∃ as, ReadsAllW R cl h us ds as
 | [], _, _, x, r => by
  cases x
  cases r
  exact ⟨_, ReadsAllW.nil⟩
 | d :: ds, _, _, x, r => by
  cases x with
  | cons h1 h2 =>
   cases r with
   | cons r1 r2 =>
    obtain ⟨as, q1⟩ := Dw.reads hok KX d _ _ h1 r1
    obtain ⟨bs, q2⟩ := Dw.readsAll hok KX ds _ _ h2 r2
    exact ⟨_, ReadsAllW.cons q1 q2⟩
end
end
/-! ### the arguments -/
mutual
/-- data that a codec tells -/
def plW : WData → Bool
 | .none => true
 | .bool _ => true
 | .int _ => true
 | .str _ => true
 | .bytes _ => true
 | .list xs => plWs xs
 | .tuple xs => plWs xs
 | _ => false
def plWs : List WData → Bool
 | [] => true
 | x :: r => plW x && plWs r
end
theorem plWs_map {α : Type} {f : α → WData} (h : ∀ a, plW (f a) = true) : ∀ l : List α, plWs (l.map f) = true
 | [] => rfl
 | x :: r => by
  show (plW (f x) && plWs (r.map f)) = true
  rw [h x, plWs_map h r] <;> rfl
theorem pl_enc : ∀ (c : Codec) (a : c.denote), plW (c.enc a) = true
 | .unit, _ => rfl
 | .bool, _ => rfl
 | .int _ _, _ => rfl
 | .nat _ _, _ => rfl
 | .u8, _ => rfl
 | .bytes _ _, _ => rfl
 | .text _ _ _ _, _ => rfl
 | .list _ _ c, a => plWs_map (fun x => pl_enc c x) a
 | .pair c d, a => by
  show (plW (c.enc a.1) && (plW (d.enc a.2) && true)) = true
  rw [pl_enc c a.1, pl_enc d a.2] <;> rfl
 | .triple c d e, a => by
  show (plW (c.enc a.1) && (plW (d.enc a.2.1) && (plW (e.enc a.2.2) && true))) = true
  rw [pl_enc c a.1, pl_enc d a.2.1, pl_enc e a.2.2] <;> rfl
 | .option c, none => rfl
 | .option c, some x => pl_enc c x
theorem pl_encAll : ∀ (cs : List Codec) (a : Codec.denoteAll cs), plWs (Codec.encAll cs a) = true
 | [], _ => rfl
 | c :: cs, a => by
  show (plW (c.enc a.1) && plWs (Codec.encAll cs a.2)) = true
  rw [pl_enc c a.1, pl_encAll cs a.2] <;> rfl
theorem weight_mem : ∀ {xs : List WData} {d : WData}, d ∈ xs → d.weight ≤ WData.weightAll xs
 | [], d, h => absurd h (by simp)
 | x :: r, d, h => by
  show d.weight ≤ x.weight + 1 + WData.weightAll r
  rcases List.mem_cons.mp h with e | m
  ·rw [e]
   omega
  ·have z := weight_mem m
   omega
def toV : Value → V
 | .none => .non
 | .bool b => .bl b
 | .int i _ => .int i
 | .str x _ => .str x
 | .bytes b _ => .byt b
 | .ref a => .ref a
 | _ => .non
def OkU (A : List Addr) : Value → Prop
 | .none => True
 | .bool _ => True
 | .int _ _ => True
 | .str _ _ => True
 | .bytes _ _ => True
 | .ref a => a ∈ A
 | _ => False
theorem OkU.mono {A B : List Addr} (h : ∀ a ∈ A, a ∈ B) : ∀ {u : Value}, OkU A u → OkU B u := fun {u} x => by
 cases u with
 | ref a => exact h a x
 | none => trivial
 | bool b => trivial
 | int i t => trivial
 | str s t => trivial
 | bytes b t => trivial
 | _ => exact False.elim x
theorem relV_toV {A : List Addr} {u : Value} (x : OkU A u) : RelV (toV u) u := by
 cases u with
 | ref a => rfl
 | none => rfl
 | bool b => rfl
 | int i t => exact ⟨t, rfl⟩
 | str s t => exact ⟨t, rfl⟩
 | bytes b t => exact ⟨t, rfl⟩
 | _ => exact False.elim x
theorem vals_toV {A : List Addr} : ∀ {vs : List Value}, (∀ u ∈ vs, OkU A u) → Vals (vs.map toV) vs
 | [], _ => .nil
 | u :: r, h => .cons (relV_toV (h u (List.mem_cons_self ..))) (vals_toV fun x hx => h x (List.mem_cons_of_mem _ hx))
def ArgOb (h : Heap) (A : List Addr) (a : Addr) : Prop := ∃ vs : List Value, vs.length ≤ sizeLine ∧ (∀ u ∈ vs, OkU A u) ∧
 (h.get? a = some { cls := .type "list", data := .seq vs.toArray } ∨ h.get? a = some { cls := .type "tuple", data := .seq vs.toArray })
theorem ArgOb.mono {h : Heap} {A B : List Addr} {a : Addr} (k : ∀ a ∈ A, a ∈ B) (x : ArgOb h A a) : ArgOb h B a := by
 obtain ⟨vs, h1, h2, h3⟩ := x
 exact ⟨vs, h1, fun u hu => (h2 u hu).mono k, h3⟩
theorem wellAll_len {P : Params} {h : Heap} : ∀ {vs : List Value} {ds : List WData}, WellAll P h vs ds → vs.length = ds.length
 | _, _, .nil => rfl
 | _, _, .cons _ b => by
  show _ + 1 = _ + 1
  rw [wellAll_len b]
theorem well_list {P : Params} {h : Heap} {v : Value} {ds : List WData} (x : Well P h v (.list ds)) : ∃ (a : Addr) (vs : List Value), v = .ref a ∧ h.get? a = some { cls := .type "list", data := .seq vs.toArray } ∧ WellAll P h vs ds := by
 cases x with
 | list ho hall => exact ⟨_, _, rfl, ho, hall⟩
theorem well_tuple {P : Params} {h : Heap} {v : Value} {ds : List WData} (x : Well P h v (.tuple ds)) : ∃ (a : Addr) (vs : List Value), v = .ref a ∧ h.get? a = some { cls := .type "tuple", data := .seq vs.toArray } ∧ WellAll P h vs ds := by
 cases x with
 | tuple ho hall => exact ⟨_, _, rfl, ho, hall⟩
theorem well_cons {P : Params} {h : Heap} {us : List Value} {d : WData} {ds : List WData} (x : WellAll P h us (d :: ds)) : ∃ (v : Value) (vs : List Value), us = v :: vs ∧ Well P h v d ∧ WellAll P h vs ds := by
 cases x with
 | cons a b => exact ⟨_, _, rfl, a, b⟩
theorem line_of {n : Nat} (h : n ≤ 1048576) : n ≤ sizeLine := Nat.le_trans h (by decide)
section
variable {P : Params} {h : Heap}
mutual
theorem area_one : ∀ (d : WData) (v : Value), Well P h v d → plW d = true → d.weight ≤ 1048576 → ∃ A : List Addr, OkU A v ∧ ∀ a ∈ A, ArgOb h A a
 | .none, _, x, _, _ => by
  cases x
  exact ⟨[], trivial, fun a m => absurd m (by simp)⟩
 | .bool b, _, x, _, _ => by
  cases x
  exact ⟨[], trivial, fun a m => absurd m (by simp)⟩
 | .int i, _, x, _, _ => by
  cases x
  exact ⟨[], trivial, fun a m => absurd m (by simp)⟩
 | .str s, _, x, _, _ => by
  cases x
  exact ⟨[], trivial, fun a m => absurd m (by simp)⟩
 | .bytes b, _, x, _, _ => by
  cases x
  exact ⟨[], trivial, fun a m => absurd m (by simp)⟩
 | .list ds, _, x, p, z => by
  obtain ⟨a, vs, rfl, ho, hall⟩ := well_list x
  have z2 : WData.weightAll ds ≤ 1048576 := z
  obtain ⟨A, h1, h2⟩ := area_all ds _ hall p fun d hd => Nat.le_trans (weight_mem hd) z2
  have k : ∀ b ∈ A, b ∈ a :: A := fun b hb => List.mem_cons_of_mem _ hb
  refine ⟨a :: A, List.mem_cons_self .., fun b hb => ?_⟩
  rcases List.mem_cons.mp hb with e | m
  ·rw [e]
   exact ⟨vs, line_of (by rw [wellAll_len hall]; exact Nat.le_trans (PySem.W.length_le_weightAllW ds) z2), fun u hu => (h1 u hu).mono k, .inl ho⟩
  ·exact (h2 b m).mono k
 | .tuple ds, _, x, p, z => by
  obtain ⟨a, vs, rfl, ho, hall⟩ := well_tuple x
  have z2 : WData.weightAll ds ≤ 1048576 := z
  obtain ⟨A, h1, h2⟩ := area_all ds _ hall p fun d hd => Nat.le_trans (weight_mem hd) z2
  have k : ∀ b ∈ A, b ∈ a :: A := fun b hb => List.mem_cons_of_mem _ hb
  refine ⟨a :: A, List.mem_cons_self .., fun b hb => ?_⟩
  rcases List.mem_cons.mp hb with e | m
  ·rw [e]
   exact ⟨vs, line_of (by rw [wellAll_len hall]; exact Nat.le_trans (PySem.W.length_le_weightAllW ds) z2), fun u hu => (h1 u hu).mono k, .inr ho⟩
  ·exact (h2 b m).mono k
 | .float _, _, _, p, _ => Bool.noConfusion (show false = true from p)
 | .dict _, _, _, p, _ => Bool.noConfusion (show false = true from p)
 | .bytearray _, _, _, p, _ => Bool.noConfusion (show false = true from p)
 | .set _, _, _, p, _ => Bool.noConfusion (show false = true from p)
 | .frozenset _, _, _, p, _ => Bool.noConfusion (show false = true from p)
 | .obj _ _, _, _, p, _ => Bool.noConfusion (show false = true from p)
theorem area_all : ∀ (ds : List WData) (vs : List Value), WellAll P h vs ds → plWs ds = true → (∀ d ∈ ds, d.weight ≤ 1048576) → ∃ A : List Addr, (∀ u ∈ vs, OkU A u) ∧ ∀ a ∈ A, ArgOb h A a
 | [], _, x, _, _ => by
  cases x
  exact ⟨[], fun u m => absurd m (by simp), fun a m => absurd m (by simp)⟩
 | d :: ds, _, x, p, z => by
  obtain ⟨v, vs, rfl, x1, x2⟩ := well_cons x
  have q : plW d = true ∧ plWs ds = true := Bool.and_eq_true_iff.mp p
  obtain ⟨A, a1, a2⟩ := area_one d v x1 q.1 (z d (List.mem_cons_self ..))
  obtain ⟨B, b1, b2⟩ := area_all ds vs x2 q.2 fun e he => z e (List.mem_cons_of_mem _ he)
  have kA : ∀ b ∈ A, b ∈ A ++ B := fun b hb => List.mem_append.mpr (.inl hb)
  have kB : ∀ b ∈ B, b ∈ A ++ B := fun b hb => List.mem_append.mpr (.inr hb)
  refine ⟨A ++ B, fun u hu => ?_, fun b hb => ?_⟩
  ·rcases List.mem_cons.mp hu with e | m
   ·rw [e]
    exact a1.mono kA
   ·exact (b1 u m).mono kB
  ·rcases List.mem_append.mp hb with m | m
   ·exact (a2 b m).mono kA
   ·exact (b2 b m).mono kB
end
end
def hoOf (o : Obj) : Option HO := match o.data with
 | .seq vs _ => if (o.cls == Value.type "list") = true then some (.frz o (.lst (vs.toList.map toV))) else some (.frz o (.tup (vs.toList.map toV)))
 | _ => none
def argH (K : PySem.W.Frag) (h : Heap) (A : List Addr) : Hp := fun b => if b ∈ A then (if (K.lookup b).isNone = true then (h.get? b).bind hoOf else none) else none
def OnlyF (H : Hp) : Prop := ∀ b, H b = none ∨ ∃ o u, H b = some (.frz o u)
theorem hoOf_lst (vs : List Value) : hoOf { cls := .type "list", data := .seq vs.toArray } = some (.frz { cls := .type "list", data := .seq vs.toArray } (.lst (vs.map toV))) := by
 show (if (Value.type "list" == Value.type "list") = true then some (HO.frz { cls := .type "list", data := .seq vs.toArray } (.lst (vs.toArray.toList.map toV))) else some (HO.frz { cls := .type "list", data := .seq vs.toArray } (.tup (vs.toArray.toList.map toV)))) = _
 rw [if_pos (beq_self_eq_true _)]
theorem hoOf_tup (vs : List Value) : hoOf { cls := .type "tuple", data := .seq vs.toArray } = some (.frz { cls := .type "tuple", data := .seq vs.toArray } (.tup (vs.map toV))) := by
 show (if (Value.type "tuple" == Value.type "list") = true then some (HO.frz { cls := .type "tuple", data := .seq vs.toArray } (.lst (vs.toArray.toList.map toV))) else some (HO.frz { cls := .type "tuple", data := .seq vs.toArray } (.tup (vs.toArray.toList.map toV)))) = _
 rw [if_neg (by decide)]
section
variable {P : Program} {w : World} {K : PySem.W.Frag} {h : Heap} {A : List Addr}
theorem argH_at {b : Addr} {o : Obj} (hb : b ∈ A) (hk : K.lookup b = none) (e : h.get? b = some o) : argH K h A b = hoOf o := by
 unfold argH
 rw [if_pos hb, hk, if_pos (show (none : Option Obj).isNone = true from rfl), e] <;> rfl
theorem of_argH {b : Addr} {u : HO} (q : argH K h A b = some u) : b ∈ A ∧ K.lookup b = none := by
 unfold argH at q
 by_cases hb : b ∈ A
 ·rw [if_pos hb] at q
  cases hk : K.lookup b with
  | none => exact ⟨hb, rfl⟩
  | some o =>
   rw [hk, if_neg (by simp)] at q
   cases q
 ·rw [if_neg hb] at q
  cases q
theorem argH_is (ar : ∀ a ∈ A, ArgOb h A a) {b : Addr} {u : HO} (q : argH K h A b = some u) : K.lookup b = none ∧ ∃ vs : List Value, vs.length ≤ sizeLine ∧ (∀ u ∈ vs, OkU A u) ∧
    ((h.get? b = some { cls := .type "list", data := .seq vs.toArray } ∧ u = .frz { cls := .type "list", data := .seq vs.toArray } (.lst (vs.map toV))) ∨
     (h.get? b = some { cls := .type "tuple", data := .seq vs.toArray } ∧ u = .frz { cls := .type "tuple", data := .seq vs.toArray } (.tup (vs.map toV)))) := by
  obtain ⟨hb, hk⟩ := of_argH q
  obtain ⟨vs, h1, h2, h3⟩ := ar b hb
  refine ⟨hk, vs, h1, h2, ?_⟩
  rcases h3 with e | e
  · rw [argH_at hb hk e, hoOf_lst] at q
    exact .inl ⟨e, (Option.some.inj q).symm⟩
  · rw [argH_at hb hk e, hoOf_tup] at q
    exact .inr ⟨e, (Option.some.inj q).symm⟩
theorem argH_only (ar : ∀ a ∈ A, ArgOb h A a) : OnlyF (argH K h A) := fun b => by
 cases q : argH K h A b with
 | none => exact .inl rfl
 | some u =>
  obtain ⟨_, vs, _, _, ⟨_, e⟩ | ⟨_, e⟩⟩ := argH_is ar q
  ·exact .inr ⟨_, _, by rw [e]⟩
  ·exact .inr ⟨_, _, by rw [e]⟩
theorem argH_ok (ar : ∀ a ∈ A, ArgOb h A a) : HOk P w (argH K h A) h := fun b u q => by
 obtain ⟨_, vs, h1, h2, ⟨e, rfl⟩ | ⟨e, rfl⟩⟩ := argH_is ar q
 ·exact ⟨e, by rw [List.length_map]; exact h1, vs, _, vals_toV h2, e⟩
 ·exact ⟨e, by rw [List.length_map]; exact h1, vs, vals_toV h2, _, e, rfl, _, rfl⟩
theorem seq_inj {c c' : Value} {vs us : List Value} (e : (some { cls := c, data := .seq vs.toArray } : Option Obj) = some { cls := c', data := .seq us.toArray }) : c = c' ∧ vs = us := by
 have e1 := Option.some.inj e
 have e2 : c = c' := congrArg Obj.cls e1
 have e3 : Data.seq vs.toArray = Data.seq us.toArray := congrArg Obj.data e1
 injection e3 with e4
 refine ⟨e2, ?_⟩
 have e5 := congrArg Array.toList e4
 simpa using e5
theorem argL (KX : K.In h) (ar : ∀ a ∈ A, ArgOb h A a) {a : Addr} {vs : List Value} (ha : a ∈ A) (e : h.get? a = some { cls := .type "list", data := .seq vs.toArray }) : (∀ u ∈ vs, OkU A u) ∧ SqL K (argH K h A) a (vs.map toV) := by
 obtain ⟨us, h1, h2, h3⟩ := ar a ha
 have hu : us = vs := by
  rcases h3 with q | q
  ·rw [e] at q
   exact (seq_inj q).2.symm
  ·rw [e] at q
   exact absurd (Value.type.inj (seq_inj q).1) (by decide)
 subst hu
 refine ⟨h2, ?_⟩
 cases hk : K.lookup a with
 | none => exact .inl (.inr ⟨_, by rw [argH_at ha hk e, hoOf_lst]⟩)
 | some o =>
  have e2 := KX a o hk
  rw [e] at e2
  obtain rfl := Option.some.inj e2
  exact .inr ⟨_, us.toArray, _, hk, rfl, rfl, rfl, by rw [List.size_toArray]; exact h1, by simpa using vals_toV h2⟩
theorem argT (KX : K.In h) (ar : ∀ a ∈ A, ArgOb h A a) {a : Addr} {vs : List Value} (ha : a ∈ A) (e : h.get? a = some { cls := .type "tuple", data := .seq vs.toArray }) : (∀ u ∈ vs, OkU A u) ∧ SqT K (argH K h A) a (vs.map toV) := by
 obtain ⟨us, h1, h2, h3⟩ := ar a ha
 have hu : us = vs := by
  rcases h3 with q | q
  ·rw [e] at q
   exact absurd (Value.type.inj (seq_inj q).1) (by decide)
  ·rw [e] at q
   exact (seq_inj q).2.symm
 subst hu
 refine ⟨h2, ?_⟩
 cases hk : K.lookup a with
 | none => exact .inl (.inr ⟨_, by rw [argH_at ha hk e, hoOf_tup]⟩)
 | some o =>
  have e2 := KX a o hk
  rw [e] at e2
  obtain rfl := Option.some.inj e2
  exact .inr ⟨_, us.toArray, _, hk, rfl, rfl, by rw [List.size_toArray]; exact h1, by simpa using vals_toV h2⟩
mutual
theorem dw_one {Pm : Params} (KX : K.In h) (ar : ∀ a ∈ A, ArgOb h A a) : ∀ (d : WData) (v : Value), Well Pm h v d → plW d = true → OkU A v → Dw K (argH K h A) (toV v) d
 | .none, _, x, _, _ => by
  cases x
  exact .non
 | .bool b, _, x, _, _ => by
  cases x
  exact .bl b
 | .int i, _, x, _, _ => by
  cases x
  exact .int i
 | .str s, _, x, _, _ => by
  cases x
  exact .str s
 | .bytes b, _, x, _, _ => by
  cases x
  have z := Dw.byt (K := K) (H := argH K h A) b.toArray
  exact z
 | .list ds, _, x, p, hu => by
  obtain ⟨a, vs, rfl, ho, hall⟩ := well_list x
  obtain ⟨h2, hs⟩ := argL KX ar hu ho
  exact .lst hs (dw_all KX ar ds _ hall p h2)
 | .tuple ds, _, x, p, hu => by
  obtain ⟨a, vs, rfl, ho, hall⟩ := well_tuple x
  obtain ⟨h2, hs⟩ := argT KX ar hu ho
  exact .tup hs (dw_all KX ar ds _ hall p h2)
 | .float _, _, _, p, _ => Bool.noConfusion (show false = true from p)
 | .dict _, _, _, p, _ => Bool.noConfusion (show false = true from p)
 | .bytearray _, _, _, p, _ => Bool.noConfusion (show false = true from p)
 | .set _, _, _, p, _ => Bool.noConfusion (show false = true from p)
 | .frozenset _, _, _, p, _ => Bool.noConfusion (show false = true from p)
 | .obj _ _, _, _, p, _ => Bool.noConfusion (show false = true from p)
theorem dw_all {Pm : Params} (KX : K.In h) (ar : ∀ a ∈ A, ArgOb h A a) : ∀ (ds : List WData) (vs : List Value), WellAll Pm h vs ds → plWs ds = true → (∀ u ∈ vs, OkU A u) → DwAll K (argH K h A) (vs.map toV) ds
 | [], _, x, _, _ => by
  cases x
  exact .nil
 | d :: ds, _, x, p, hu => by
  obtain ⟨v, vs, rfl, x1, x2⟩ := well_cons x
  have q : plW d = true ∧ plWs ds = true := Bool.and_eq_true_iff.mp p
  exact .cons (dw_one KX ar d v x1 q.1 (hu _ (List.mem_cons_self ..))) (dw_all KX ar ds vs x2 q.2 fun u m => hu u (List.mem_cons_of_mem _ m))
end
end
/-! ### the call -/
theorem spec_call {P : Program} {w : World} {K : PySem.W.Frag} {mg mb : Str → Option Value} {CX : CXT} {k : Nat} {fa : Addr} {fd : FuncData} {ps : List Str} {sp : Sp} {s₁ : Shared} {vals : List Value} {ds : List WData} {R : PySem.W.WRecords} {cl : Str → Option Addr} {d0 : WData}
  (KX : K.In s₁.heap) (hns : s₁.heap.Ns mainGlobals mg) (hb : s₁.heap.Ns builtinsNs mb) (hbb : ∀ x : Str, x ≠ "__name__" → mb x = bootBuiltins x) (hlim : s₁.heap.NoLimit) (hg : s₁.gens = #[])
  (hwl : WellAll w.params s₁.heap vals ds) (hpl : plWs ds = true) (hwt : ∀ d ∈ ds, d.weight ≤ 1048576) (hr : Room k callerA)
  (F : ∀ base : Heap, K.In base → base.Ns mainGlobals mg → FnOk P w K mg base CX k fa fd ps sp) (hbind : ∀ (s : Shared) (us : List Value), us.length = ps.length → BindsTo s fd ⟨us, []⟩ (ps.zip us)) (hlen : ds.length = ps.length)
  (hsp : ∀ (H : Hp) (xs : List V), OnlyF H → DwAll K H xs ds → sp xs H (fun v H' => Dw K H' v d0) fun _ _ _ => False)
  (hCX : ∀ H e s', CX [] H s₁ (fun _ _ _ => False) e s' → False) :
  codeAny (model P w) callerA (.call (.ref fa) ⟨vals, []⟩) (fun r s' => ∃ u as, r = .ok (.ret u) ∧ ReadsW R cl s'.heap u d0 as ∧ OldK s₁.heap s'.heap ∧ s'.os = s₁.os ∧ AllBare s'.gens) s₁ := by
 obtain ⟨A, ho, ar⟩ := area_all ds vals hwl hpl hwt
 have hO : OnlyF (argH K s₁.heap A) := argH_only ar
 have hok : HOk P w (argH K s₁.heap A) s₁.heap := argH_ok ar
 have hS := dw_all KX ar ds vals hwl hpl ho
 have hV := vals_toV ho
 have hK : ∀ b u, argH K s₁.heap A b = some u → K.lookup b = none := fun b u q => (argH_is ar q).1
 have noA : ∀ {b : Addr} {o : Obj} {es : Array DictEntry} {ep : Nat}, s₁.heap.get? b = some o → o.data = .dict es ep → argH K s₁.heap A b = none := fun {b o es ep} e d => by
  cases q : argH K s₁.heap A b with
  | none => rfl
  | some u =>
   obtain ⟨_, vs, _, _, ⟨e2, _⟩ | ⟨e2, _⟩⟩ := argH_is ar q
   ·rw [e2] at e
    cases e
    have d' : Data.seq vs.toArray _ = Data.dict es ep := d
    cases d'
   ·rw [e2] at e
    cases e
    have d' : Data.seq vs.toArray _ = Data.dict es ep := d
    cases d'
 generalize argH K s₁.heap A = H at hO hok hS hK noA
 have base_of : ∀ {b : Addr} {o : Obj}, s₁.heap.get? b = some o → H b = none → (hidT s₁.heap H).get? b = some o := fun e n => hidT_get e n
 have nsK : ∀ {b : Addr} {m : Str → Option Value}, s₁.heap.Ns b m → (hidT s₁.heap H).Ns b m := fun {b m} ⟨o, es, ep, e, d, r⟩ => ⟨o, es, ep, base_of e (noA e d), d, r⟩
 have nK : ∀ b o, K.lookup b = some o → H b = none := fun b o e => by
  cases q : H b with
  | none => rfl
  | some u =>
   rw [hK b u q] at e
   cases e
 have hKb : K.In (hidT s₁.heap H) := fun b o e => base_of (KX b o e) (nK b o e)
 have hM : Mod K mg (hidT s₁.heap H) := ⟨hKb, nsK hns, ⟨mb, nsK hb, hbb⟩, let ⟨mc, h1, h2⟩ := hlim; ⟨mc, nsK h1, h2⟩⟩
 have e0 : Env0 P w K mg (hidT s₁.heap H) callerA [] s₁ H := ⟨rfl, hM, fun b o e => of_hidT e, Nat.le_of_eq (hidT_size _ _), trivial, fun b hb => absurd (show b ∈ ([] : List Addr) from hb) (by simp), hok, .of_eq hg⟩
 have hl : vals.length = ps.length := by rw [wellAll_len hwl]; exact hlen
 refine codeAny_mono ((F _ hKb (nsK hns)).run callerA [] s₁ H ⟨vals, []⟩ vals (vals.map toV) _ _ hr e0 (hbind s₁ vals hl) hV (hsp H _ hO hS)) fun r s' x => ?_
 cases r with
 | error e => exact (hCX H e s' x).elim
 | ok fl =>
  cases fl with
  | next => exact False.elim x
  | brk => exact False.elim x
  | cont => exact False.elim x
  | ret u =>
   obtain ⟨v, H', os, bare, un, hok', r', q⟩ := x
   have kept : ∀ b o, s₁.heap.get? b = some o → s'.heap.get? b = some o := fun b o e => by
    cases q2 : H b with
    | none => exact un.keep b o e q2 (by intro z; exact absurd (show b ∈ ([] : List Addr) from z) (by simp)) (by simp)
    | some u2 =>
     rcases hO b with z | ⟨ob, u3, z⟩
     ·rw [q2] at z
      cases z
     ·have z2 := un.frzs b ob _ z
      obtain ⟨e1, _⟩ := hok b _ z
      obtain ⟨e2, _⟩ := hok' b _ z2
      rw [e] at e1
      cases e1
      exact e2
   have KX' : K.In s'.heap := fun b o e => kept b o (KX b o e)
   obtain ⟨as, hrd⟩ := Dw.reads (R := R) (cl := cl) hok' KX' d0 v u q r'
   exact ⟨u, as, rfl, hrd, OldK.of_keep kept, os, bare⟩
/-! ### the row -/
theorem layable_weight {ds : List WData} (h : WData.layableAll ds = true) : ∀ d ∈ ds, d.weight ≤ 1048576 := fun d hd =>
 (PySem.W.layableW_iff.mp (List.all_eq_true.mp h d hd)).2.2
theorem encAll_len : ∀ (cs : List Codec) (a : Codec.denoteAll cs), (Codec.encAll cs a).length = cs.length
 | [], _ => rfl
 | c :: cs, a => by
  show (Codec.encAll cs a.2).length + 1 = cs.length + 1
  rw [encAll_len cs a.2]
theorem walk_spec {r : OpenSpec} {k : Nat} {q : Program} {loose : List Str} {XP : (Str → Option Value) → Heap → Prop} {YP : World → Heap → Prop} {d : DefRec} {K : Params → PySem.W.Frag} {CX : World → CXT} {ps : List Str} {sp : World → Sp}
  (hwell : r.wellSaid = true) (hdf : d.params.defaults = []) (hlen : r.args.length = ps.length) (hr : Room k callerA)
  (hY : ∀ (w : World) (h : Heap), YP w h → (K w.params).In h)
  (F : ∀ (w : World) (mg : Str → Option Value) (fa : Addr) (h : Heap), YP w h → (K w.params).In h → h.Ns mainGlobals mg → mg d.name = some (.ref fa) →
   ∃ fd : FuncData, (∀ (s : Shared) (us : List Value), us.length = ps.length → BindsTo s fd ⟨us, []⟩ (ps.zip us)) ∧
    ∀ base : Heap, (K w.params).In base → base.Ns mainGlobals mg → FnOk r.prog w (K w.params) mg base (CX w) k fa fd ps (sp w))
  (hsp : ∀ (w : World) (H : Hp) (xs : List V) (a : Codec.denoteAll r.args), OnlyF H → Codec.withinAll r.args a = true → Codec.app r.args r.asked a = true → DwAll (K w.params) H xs (Codec.encAll r.args a) →
   sp w xs H (fun v H' => Dw (K w.params) H' v (r.ret.enc (Codec.app r.args r.f a))) fun _ _ _ => False)
  (hCX : ∀ (w : World) (H : Hp) (s : Shared) (e : Value) (s' : Shared), CX w [] H s (fun _ _ _ => False) e s' → False) :
  PySem.W.WalkOS q loose XP YP r d [] (fun f vs => PySem.call f vs) := by
 intro w s_0 s₁ mg mb G Y fa o pm cd doc dV kV ho hd hcd hD hmg hg args vals as hpre hlay hrd hwl hlo
 obtain ⟨a, e1, e2⟩ := PySem.W.os_pre_some hpre
 obtain ⟨e3, hwi⟩ := Codec.encAll_of_decAll r.args args a e1
 subst e3
 have KX := hY w _ Y
 obtain ⟨fd, hb, hF⟩ := F w mg fa _ Y KX G.T.g hmg
 refine PySem.W.enter_call (codeAny_mono (spec_call (R := []) (cl := classAt s_0.heap) (d0 := r.ret.enc (Codec.app r.args r.f a)) KX G.T.g G.T.b G.T.builtins G.T.nolimit hg hwl (pl_encAll _ _) (layable_weight hlay) hr hF hb (by rw [encAll_len]; exact hlen)
  (fun H xs hO hS => hsp w H xs a hO hwi e2 hS) fun H e s' => hCX w H s₁ e s') fun r' s' hq => ?_)
 obtain ⟨u, as', rfl, h1, h2, h3, h4⟩ := hq
 exact ⟨.inl ⟨u, _, as', rfl, fun _ => rfl, h1, (OpenSpec.post_iff hwell hwi _ _).mpr rfl, fun z => Bool.noConfusion (show false = true from z)⟩, h2, h3, h4⟩
theorem walk_specK {r : OpenSpec} {k : Nat} {q : Program} {loose : List Str} {XP : (Str → Option Value) → Heap → Prop} {YP : World → Heap → Prop} {d : DefRec} {K : Params → PySem.W.Frag} {CX : CXT} {ps : List Str} {sp : PySem.W.Frag → Sp}
  (hwell : r.wellSaid = true) (hdf : d.params.defaults = []) (hlen : r.args.length = ps.length) (hr : Room k callerA)
  (hY : ∀ (w : World) (h : Heap), YP w h → (K w.params).In h)
  (F : ∀ (w : World) (mg : Str → Option Value) (fa : Addr) (h : Heap), YP w h → (K w.params).In h → h.Ns mainGlobals mg → mg d.name = some (.ref fa) →
   ∃ fd : FuncData, (∀ (s : Shared) (us : List Value), us.length = ps.length → BindsTo s fd ⟨us, []⟩ (ps.zip us)) ∧
    ∀ base : Heap, (K w.params).In base → base.Ns mainGlobals mg → FnOk r.prog w (K w.params) mg base CX k fa fd ps (sp (K w.params)))
  (hsp : ∀ (K : PySem.W.Frag) (H : Hp) (xs : List V) (a : Codec.denoteAll r.args), OnlyF H → Codec.withinAll r.args a = true → Codec.app r.args r.asked a = true → DwAll K H xs (Codec.encAll r.args a) →
   sp K xs H (fun v H' => Dw K H' v (r.ret.enc (Codec.app r.args r.f a))) fun _ _ _ => False)
  (hCX : ∀ (H : Hp) (s : Shared) (e : Value) (s' : Shared), CX [] H s (fun _ _ _ => False) e s' → False) :
  PySem.W.WalkOS q loose XP YP r d [] (fun f vs => PySem.call f vs) :=
 walk_spec (K := K) (CX := fun _ => CX) (sp := fun w => sp (K w.params)) hwell hdf hlen hr hY F (fun w H xs a h1 h2 h3 h4 => hsp (K w.params) H xs a h1 h2 h3 h4) fun _ H s e s' => hCX H s e s'
end L2
-- rests on (row put in by the clerk, for the bench that shows a file only what it spells): KE.SpHead KE.OsShapes
end
set_option Elab.async false
set_option linter.all false
set_option maxRecDepth 100000
set_option maxHeartbeats 4000000
namespace L2
open PySem PySem.Spec PyProof.Rows
section
variable {X : Cx}
theorem pe_gint {x : Str} {i : Int} {pos : Pos} (hg : Gl X x) (hm : ∃ t, X.mg x = some (.int i t)) (hd : (x == ("__debug__" : Str)) = false := by decide) : PE X (.Name x pos) (tC (.int i)) :=
 let ⟨t, e⟩ := hm
 pe_glob hg e ⟨t, rfl⟩ hd
theorem cr_range1 : CallR X (.type "range") (fun xs H Q => ∃ j : Int, xs = [.int j] ∧ ∀ p, H p = none → Q (.ref p) (upd H p (.rng 0 j))) := by
 intro pins s σ H xs us Q I r h
 obtain ⟨j, rfl, q⟩ := h
 obtain ⟨u, rfl, t, rfl⟩ := vals1 r
 refine call_range_1 ?_
 exact ⟨.ref _, _, I.laid (a := s.heap.objs.size) (o := .rng 0 j) (fun b o e => Heap.get?_push_of_some _ e) (Nat.le_refl _) ⟨_, _, _, Heap.get?_push_size _ rfl⟩, rfl, q _ (I.hok.fresh (Nat.le_refl _))⟩
theorem vals_of_at : ∀ {xs : List V} {us : List Value}, xs.length = us.length → (∀ (j : Nat) (x : V) (u : Value), xs[j]? = some x → us[j]? = some u → RelV x u) → Vals xs us
 | [], [], _, _ => .nil
 | x :: xs, u :: us, hl, h => .cons (h 0 x u rfl rfl) (vals_of_at (by simpa using hl) fun j y w e1 e2 => h (j + 1) y w (by simpa using e1) (by simpa using e2))
 | [], _ :: _, hl, _ => by simp at hl
 | _ :: _, [], hl, _ => by simp at hl
theorem cr_list_rng (hc : X.calm = true) : CallR X (.type "list") (fun xs H Q => ∃ (p : Addr) (n : Nat), xs = [.ref p] ∧ H p = some (.rng 0 (n : Int)) ∧ n ≤ 1000 ∧ ∀ l, H l = none → Q (.ref l) (upd H l (.lst ((List.range n).map fun (i : Nat) => V.int (i : Int))))) := by
 intro pins s σ H xs us Q I r h
 obtain ⟨p, n, rfl, hp, hn, q⟩ := h
 obtain ⟨u, rfl, rx⟩ := vals1 r
 cases rx
 obtain ⟨t1, t2, t3, hr⟩ := I.hok p _ hp
 have hs : Builtin.Range.rangeSize 0 (n : Int) 1 = (n : Int) := by rw [rangeSize_one]; split <;> omega
 refine call_list_range (n := n) (I.ok.hd hc) hr (small_one (by omega) (by omega) (by omega) (by omega)) hs (by omega) fun h' tk acc' c' kp e it => ?_
 have hv : Vals ((List.range n).map fun (i : Nat) => V.int (i : Int)) acc'.toList := by
  refine vals_of_at (by simp [it.1]) fun j x w e1 e2 => ?_
  rw [List.getElem?_map] at e1
  have hj : j < n := by
   have := (List.getElem?_eq_some_iff.mp e2).1
   simp [it.1] at this; exact this
  rw [List.getElem?_range hj] at e1
  cases e1
  obtain ⟨t, ht⟩ := it.2 j w (by simpa using e2)
  exact ⟨t, by rw [ht]; simp⟩
 refine ⟨.ref s.heap.objs.size, _, I.laid (t' := tk) (a := s.heap.objs.size) (o := .lst ((List.range n).map fun (i : Nat) => V.int (i : Int))) kp (Nat.le_refl _) ?_, rfl, q _ (I.hok.fresh (Nat.le_refl _))⟩
 exact ⟨by rw [List.length_map, List.length_range]; exact Nat.le_trans hn (by decide), acc'.toList, c', hv, e⟩
end
end L2
set_option Elab.async false
set_option linter.all false
set_option maxRecDepth 100000
set_option maxHeartbeats 4000000
namespace UKZ
open PySem PySem.Spec PyProof.Rows
section
variable {prog : Program} {w : World} {A : Around} {E : Value → Shared → Prop} {s : Shared}
theorem nextT_item {j t : Addr} {i : Nat} {its} {x : Value} {Q : Value → Shared → Prop} (hj : s.heap.IsTupleIter j t i) (ht : s.heap.IsTuple t its) (hx : its[i]? = some x)
  (q : ∀ h', h'.IsTupleIter j t (i + 1) → Heap.SameBut j s.heap h' → Q x { s with heap := h' }) : wpAny (model prog w) A (Builtin.SmallTypes.nextOf (.ref j)) Q E s := by
 obtain ⟨o, ho, hc, hd⟩ := id hj
 obtain ⟨ot, hot, _, nt, hdt⟩ := ht
 unfold Builtin.SmallTypes.nextOf
 refine wpAny_bind (wpAny_callSpecial?_slot (name := Str.ofString "__next__") hj.typeIs F.slot_tuple_iterator_next (wpAny_call_entry F.slot_tuple_iterator_next hj.typeIs F.entry_tuple_iterator_next ?_ (F.args_tuple_iterator_next_1 _)))
 show wpAny _ _ (field (.ref j) 0 >>= _) _ _ s
 refine wpAny_bind (wpAny_field ho hd (x := .ref t) rfl ?_)
 show wpAny _ _ (if (Value.ref t == Value.none) = true then _ else _) _ _ s
 rw [if_neg (show ¬ ((Value.ref t == Value.none) = true) from Bool.false_ne_true)]
 show wpAny _ _ (field (.ref j) 1 >>= _) _ _ s
 refine wpAny_bind (wpAny_field ho hd (x := .int i 0) rfl ?_)
 show wpAny _ _ (seqItems? (.ref t) >>= _) _ _ s
 refine wpAny_bind (wpAny_seqItems hot hdt ?_)
 simp only [Int.toNat_natCast, hx]
 refine wpAny_bind (wpAny_setField ho hd (by simp) (wpAny_pure ⟨x, rfl, wpAny_pure (q _ ?_ (Heap.SameBut.update ..))⟩))
 exact ⟨_, Heap.get?_update_self _ ho (Obj.isFreed_of_fields (Obj.data_mapFields hd _)), (Obj.cls_mapFields ..).trans hc, by rw [Obj.data_mapFields hd]; simp [rawInt]⟩
theorem nextT_end {j t : Addr} {i : Nat} {its} {Q : Value → Shared → Prop} (hh : A.handled = none) (hj : s.heap.IsTupleIter j t i) (ht : s.heap.IsTuple t its) (hx : its[i]? = none)
  (q : ∀ h' e, Heap.ExtBut j s.heap h' → (∃ o, h'.get? e = some o ∧ o.cls = .type "StopIteration") → E (.ref e) { s with heap := h' }) : wpAny (model prog w) A (Builtin.SmallTypes.nextOf (.ref j)) Q E s := by
 obtain ⟨o, ho, hc, hd⟩ := id hj
 obtain ⟨ot, hot, _, nt, hdt⟩ := ht
 unfold Builtin.SmallTypes.nextOf
 refine wpAny_bind (wpAny_callSpecial?_slot (name := Str.ofString "__next__") hj.typeIs F.slot_tuple_iterator_next (wpAny_call_entry F.slot_tuple_iterator_next hj.typeIs F.entry_tuple_iterator_next ?_ (F.args_tuple_iterator_next_1 _)))
 show wpAny _ _ (field (.ref j) 0 >>= _) _ _ s
 refine wpAny_bind (wpAny_field ho hd (x := .ref t) rfl ?_)
 show wpAny _ _ (if (Value.ref t == Value.none) = true then _ else _) _ _ s
 rw [if_neg (show ¬ ((Value.ref t == Value.none) = true) from Bool.false_ne_true)]
 show wpAny _ _ (field (.ref j) 1 >>= _) _ _ s
 refine wpAny_bind (wpAny_field ho hd (x := .int i 0) rfl ?_)
 show wpAny _ _ (seqItems? (.ref t) >>= _) _ _ s
 refine wpAny_bind (wpAny_seqItems hot hdt ?_)
 simp only [Int.toNat_natCast, hx]
 refine wpAny_bind (wpAny_rule (wpAny_bind (wpAny_setField ho hd (by simp) ?_)))
 show wpAny _ _ (newExc (.type "StopIteration") [] >>= _) _ _ _
 refine wpAny_bind ?_
 simp only [newExc, newTuple]
 refine wpAny_bind (wpAny_newObj_type ?_ (by size_fits))
 refine wpAny_bind (m := firstArgMember _ _) (wpAny_of_eq (a := Value.none) (by first | rfl | (simp only [firstArgMember]; rfl)) ?_)
 refine wpAny_newObj_type ?_ (by size_fits)
 simp only [raiseNew]
 refine wpAny_bind (wpAny_handled ?_)
 first | rw [show A.in1.handled = none from hh] | rw [hh]
 refine wpAny_bind (wpAny_pure (wpAny_throw ?_))
 exact q _ _ (((Heap.SameBut.update ..).extBut.push _).push _) ⟨_, Heap.get?_push_size _ rfl, rfl⟩
theorem zipT_next {z TI TO i1 i2 l1 l2 : Addr} {k1 k2 : Nat} {xs ys : Array Value} {x y a b : Value} {Q : Value → Shared → Prop} (D : ZipApart z TI TO i1 i2 l1 l2)
  (hz : IsZip s.heap z TI TO .none) (hTI : IsPair s.heap TI (.ref i1) (.ref i2)) (hTO : IsPair s.heap TO a b)
  (h1 : s.heap.IsListIter i1 l1 k1) (h2 : s.heap.IsTupleIter i2 l2 k2) (hl1 : s.heap.IsList l1 xs) (hl2 : s.heap.IsTuple l2 ys) (hx : xs[k1]? = some x) (hy : ys[k2]? = some y)
  (hQ : ∀ h', IsZip h' z TI TO (rawInt s.heap.objs.size) → IsPair h' TO x y → h'.IsListIter i1 l1 (k1 + 1) → h'.IsTupleIter i2 l2 (k2 + 1) → IsPair h' s.heap.objs.size x y → h'.objs.size = s.heap.objs.size + 1 →
   (∀ c o, c ≠ z → c ≠ TO → c ≠ i1 → c ≠ i2 → s.heap.get? c = some o → h'.get? c = some o) → Q (.ref s.heap.objs.size) { s with heap := h' }) :
  wpAny (model prog w) A (Builtin.«zip.__next__» ⟨[.ref z], []⟩) (fun fin s' => ∃ v, fin = .done (.ret v) ∧ Q v s') E s := by
 show wpAny _ _ (field (.ref z) 2 >>= _) _ _ _
 refine wpAny_bind (wpAny_field hz rfl (x := .bool false) rfl ?_)
 show wpAny _ _ (field (.ref z) 3 >>= _) _ _ _
 refine wpAny_bind (wpAny_field hz rfl (x := .ref TI) rfl ?_)
 refine wpAny_bind (wpAny_seqItems hTI rfl ?_)
 show wpAny _ _ (Builtin.SmallTypes.ownedTupleIsFree (.ref z) >>= _) _ _ _
 refine wpAny_bind ?_
 unfold Builtin.SmallTypes.ownedTupleIsFree
 refine wpAny_bind (wpAny_field hz rfl (x := .none) rfl (wpAny_pure ?_))
 simp only [if_true]
 refine wpAny_bind (wpAny_rule ?_)
 refine wpAny_bind (wpAny_field hz rfl (x := .ref TO) rfl ?_)
 refine wpAny_bind (wpAny_setField_rec hz (by simp) fun g1 hz1 hs1 => ?_)
 replace hz1 : IsZip g1 z TI TO .ellipsis := hz1
 refine wpAny_bind ?_
 simp only [List.zipIdx_cons, List.zipIdx_nil, List.forIn_cons, List.forIn_nil]
 refine wpAny_bind (wpAny_bind (wpAny_onRaise ?_))
 show wpAny _ _ (Builtin.SmallTypes.nextOf (.ref i1) >>= _) _ _ _
 refine wpAny_bind (wpAny_nextOf_list_item (h1.extBut hs1.extBut D.i1z) (hl1.extBut hs1.extBut D.l1z) hx fun g2 h12 hs2 => wpAny_pure ?_)
 have hTO2 : IsPair g2 TO a b := hs2.extBut _ _ D.TOi1 (hs1.extBut _ _ D.TOz hTO)
 refine wpAny_bind (wpAny_seqItems hTO2 rfl ?_)
 refine wpAny_bind (wpAny_updateSeq_pair hTO2 fun g3 hTO3 hs3 => ?_)
 replace hTO3 : IsPair g3 TO x b := hTO3
 refine wpAny_bind (wpAny_letGo (wpAny_pure ?_))
 refine wpAny_bind (wpAny_bind (wpAny_onRaise ?_))
 show wpAny _ _ (Builtin.SmallTypes.nextOf (.ref i2) >>= _) _ _ _
 refine wpAny_bind (nextT_item (((h2.extBut hs1.extBut D.i2z).extBut hs2.extBut D.i12.symm).extBut hs3.extBut D.TOi2.symm)
  (((hl2.extBut hs1.extBut D.l2z).extBut hs2.extBut D.l2i1).extBut hs3.extBut D.l2TO) hy fun g4 h24 hs4 => wpAny_pure ?_)
 have hTO4 : IsPair g4 TO x b := hs4.extBut _ _ D.TOi2 hTO3
 refine wpAny_bind (wpAny_seqItems hTO4 rfl ?_)
 refine wpAny_bind (wpAny_updateSeq_pair hTO4 fun g5 hTO5 hs5 => ?_)
 replace hTO5 : IsPair g5 TO x y := hTO5
 refine wpAny_bind (wpAny_letGo (wpAny_pure (wpAny_pure ?_)))
 refine wpAny_bind (wpAny_seqItems hTO5 rfl ?_)
 refine wpAny_bind (wpAny_newTuple ?_)
 have hsz : g5.objs.size = s.heap.objs.size := by rw [hs5.1, hs4.1, hs3.1, hs2.1, hs1.1]
 have hz5 : IsZip g5 z TI TO .ellipsis := hs5.extBut _ _ D.TOz.symm (hs4.extBut _ _ D.i2z.symm (hs3.extBut _ _ D.TOz.symm (hs2.extBut _ _ D.i1z.symm hz1)))
 have hk5 : ∀ c o, c ≠ z → c ≠ TO → c ≠ i1 → c ≠ i2 → s.heap.get? c = some o → g5.get? c = some o := fun c o c1 c2 c3 c4 e =>
  hs5.extBut _ _ c2 (hs4.extBut _ _ c4 (hs3.extBut _ _ c2 (hs2.extBut _ _ c3 (hs1.extBut _ _ c1 e))))
 have h15 : g5.IsListIter i1 l1 (k1 + 1) := ((h12.extBut hs3.extBut D.TOi1.symm).extBut hs4.extBut D.i12).extBut hs5.extBut D.TOi1.symm
 have h25 : g5.IsTupleIter i2 l2 (k2 + 1) := h24.extBut hs5.extBut D.TOi2.symm
 have hzlt : z < g5.objs.size := Heap.lt_size hz5
 show wpAny _ _ (Builtin.SmallTypes.ownedTupleHandOut (.ref z) (.ref g5.objs.size) >>= _) _ _ _
 refine wpAny_bind ?_
 unfold Builtin.SmallTypes.ownedTupleHandOut
 have hz6 : IsZip (g5.push { cls := .type "tuple", data := .seq #[x, y] }) z TI TO .ellipsis := Heap.get?_push_of_some _ hz5
 refine wpAny_bind (wpAny_setField_rec hz6 (by simp) fun g7 hz7 hs7 => ?_)
 replace hz7 : IsZip g7 z TI TO (rawInt g5.objs.size) := hz7
 refine wpAny_setField_rec hz7 (by simp) fun g8 hz8 hs8 => ?_
 replace hz8 : IsZip g8 z TI TO (rawInt g5.objs.size) := hz8
 have up : ∀ c o, c ≠ z → g5.get? c = some o → g8.get? c = some o := fun c o c1 e => hs8.extBut _ _ c1 (hs7.extBut _ _ c1 (Heap.get?_push_of_some _ e))
 have hT8 : IsPair g8 g5.objs.size x y := hs8.extBut _ _ (Nat.ne_of_gt hzlt) (hs7.extBut _ _ (Nat.ne_of_gt hzlt) (Heap.get?_push_size _ rfl))
 have hn8 : g8.objs.size = g5.objs.size + 1 := by rw [hs8.1, hs7.1, Heap.size_push]
 rw [hsz] at hz8 hT8 hn8
 refine wpAny_pure ⟨_, rfl, ?_⟩
 show Q (.ref g5.objs.size) _
 rw [hsz]
 refine hQ g8 hz8 (up _ _ D.TOz hTO5) (h15.at fun o e => up _ o D.i1z e) ?_ hT8 hn8 fun c o c1 c2 c3 c4 e => up c o c1 (hk5 c o c1 c2 c3 c4 e)
 obtain ⟨o2, e2, r2⟩ := h25
 exact ⟨o2, up _ _ D.i2z e2, r2⟩
theorem zipT_stop {z TI TO i1 i2 l1 l2 : Addr} {k1 k2 : Nat} {xs ys : Array Value} {a b : Value} {Q : Fin → Shared → Prop} (hh : A.handled = none) (D : ZipApart z TI TO i1 i2 l1 l2)
  (hz : IsZip s.heap z TI TO .none) (hTI : IsPair s.heap TI (.ref i1) (.ref i2)) (hTO : IsPair s.heap TO a b)
  (h1 : s.heap.IsListIter i1 l1 k1) (h2 : s.heap.IsTupleIter i2 l2 k2) (hl1 : s.heap.IsList l1 xs) (hl2 : s.heap.IsTuple l2 ys) (hend : xs[k1]? = none ∨ ys[k2]? = none)
  (hE : ∀ h' e, (∀ c o, c ≠ z → c ≠ TO → c ≠ i1 → c ≠ i2 → s.heap.get? c = some o → h'.get? c = some o) → (∃ o, h'.get? e = some o ∧ o.cls = .type "StopIteration") → E (.ref e) { s with heap := h' }) :
  wpAny (model prog w) A (Builtin.«zip.__next__» ⟨[.ref z], []⟩) Q E s := by
 show wpAny _ _ (field (.ref z) 2 >>= _) _ _ _
 refine wpAny_bind (wpAny_field hz rfl (x := .bool false) rfl ?_)
 show wpAny _ _ (field (.ref z) 3 >>= _) _ _ _
 refine wpAny_bind (wpAny_field hz rfl (x := .ref TI) rfl ?_)
 refine wpAny_bind (wpAny_seqItems hTI rfl ?_)
 show wpAny _ _ (Builtin.SmallTypes.ownedTupleIsFree (.ref z) >>= _) _ _ _
 refine wpAny_bind ?_
 unfold Builtin.SmallTypes.ownedTupleIsFree
 refine wpAny_bind (wpAny_field hz rfl (x := .none) rfl (wpAny_pure ?_))
 simp only [if_true]
 refine wpAny_bind (wpAny_rule ?_)
 refine wpAny_bind (wpAny_field hz rfl (x := .ref TO) rfl ?_)
 refine wpAny_bind (wpAny_setField_rec hz (by simp) fun g1 hz1 hs1 => ?_)
 replace hz1 : IsZip g1 z TI TO .ellipsis := hz1
 refine wpAny_bind ?_
 simp only [List.zipIdx_cons, List.zipIdx_nil, List.forIn_cons, List.forIn_nil]
 refine wpAny_bind (wpAny_bind (wpAny_onRaise ?_))
 show wpAny _ _ (Builtin.SmallTypes.nextOf (.ref i1) >>= _) _ _ _
 cases hx : xs[k1]? with
 | none =>
  refine wpAny_bind (wpAny_nextOf_list_end hh (h1.extBut hs1.extBut D.i1z) (hl1.extBut hs1.extBut D.l1z) hx fun g2 e hs2 he => ?_)
  obtain ⟨oe, hoe, hce⟩ := he
  have hz2 : IsZip g2 z TI TO .ellipsis := hs2 _ _ D.i1z.symm hz1
  have hez : e ≠ z := fun q => by subst q; rw [hz2] at hoe; cases hoe; simp at hce
  refine wpAny_setField_rec hz2 (by simp) fun g3 _ hs3 => hE g3 e (fun c o c1 _ c3 _ q => hs3.extBut _ _ c1 (hs2 _ _ c3 (hs1.extBut _ _ c1 q))) ⟨oe, hs3.extBut _ _ hez hoe, hce⟩
 | some x =>
  have hy : ys[k2]? = none := by
   rcases hend with h | h
   ·rw [hx] at h; cases h
   ·exact h
  refine wpAny_bind (wpAny_nextOf_list_item (h1.extBut hs1.extBut D.i1z) (hl1.extBut hs1.extBut D.l1z) hx fun g2 h12 hs2 => wpAny_pure ?_)
  have hTO2 : IsPair g2 TO a b := hs2.extBut _ _ D.TOi1 (hs1.extBut _ _ D.TOz hTO)
  refine wpAny_bind (wpAny_seqItems hTO2 rfl ?_)
  refine wpAny_bind (wpAny_updateSeq_pair hTO2 fun g3 hTO3 hs3 => ?_)
  refine wpAny_bind (wpAny_letGo (wpAny_pure ?_))
  refine wpAny_bind (wpAny_bind (wpAny_onRaise ?_))
  show wpAny _ _ (Builtin.SmallTypes.nextOf (.ref i2) >>= _) _ _ _
  refine wpAny_bind (nextT_end hh (((h2.extBut hs1.extBut D.i2z).extBut hs2.extBut D.i12.symm).extBut hs3.extBut D.TOi2.symm)
   (((hl2.extBut hs1.extBut D.l2z).extBut hs2.extBut D.l2i1).extBut hs3.extBut D.l2TO) hy fun g4 e hs4 he => ?_)
  obtain ⟨oe, hoe, hce⟩ := he
  have hz4 : IsZip g4 z TI TO .ellipsis := hs4 _ _ D.i2z.symm (hs3.extBut _ _ D.TOz.symm (hs2.extBut _ _ D.i1z.symm hz1))
  have hez : e ≠ z := fun q => by subst q; rw [hz4] at hoe; cases hoe; simp at hce
  refine wpAny_setField_rec hz4 (by simp) fun g5 _ hs5 => hE g5 e (fun c o c1 c2 c3 c4 q => hs5.extBut _ _ c1 (hs4 _ _ c4 (hs3.extBut _ _ c2 (hs2.extBut _ _ c3 (hs1.extBut _ _ c1 q))))) ⟨oe, hs5.extBut _ _ hez hoe, hce⟩
theorem pyNext_zipT {z TI TO i1 i2 l1 l2 : Addr} {k1 k2 : Nat} {xs ys : Array Value} {x y a b : Value} {Q : Option Value → Shared → Prop} (D : ZipApart z TI TO i1 i2 l1 l2)
  (hz : IsZip s.heap z TI TO .none) (hTI : IsPair s.heap TI (.ref i1) (.ref i2)) (hTO : IsPair s.heap TO a b)
  (h1 : s.heap.IsListIter i1 l1 k1) (h2 : s.heap.IsTupleIter i2 l2 k2) (hl1 : s.heap.IsList l1 xs) (hl2 : s.heap.IsTuple l2 ys) (hx : xs[k1]? = some x) (hy : ys[k2]? = some y)
  (hQ : ∀ h', IsZip h' z TI TO (rawInt s.heap.objs.size) → IsPair h' TO x y → h'.IsListIter i1 l1 (k1 + 1) → h'.IsTupleIter i2 l2 (k2 + 1) → IsPair h' s.heap.objs.size x y → h'.objs.size = s.heap.objs.size + 1 →
   (∀ c o, c ≠ z → c ≠ TO → c ≠ i1 → c ≠ i2 → s.heap.get? c = some o → h'.get? c = some o) → Q (some (.ref s.heap.objs.size)) { s with heap := h' }) :
  wpAny (model prog w) A (pyNext (.ref z)) Q E s := by
 have ty : s.TypeIs (.ref z) "zip" := ⟨_, hz, rfl⟩
 unfold pyNext
 exact wpAny_bind (wpAny_attempt (wpAny_callSpecial?_slot (name := Str.ofString "__next__") ty F.slot_zip_next (wpAny_call_entry F.slot_zip_next ty F.entry_zip_next
   (zipT_next D hz hTI hTO h1 h2 hl1 hl2 hx hy fun h' a1 a2 a3 a4 a5 a6 a7 => wpAny_pure (hQ h' a1 a2 a3 a4 a5 a6 a7)) (F.args_zip_next_1 _))))
theorem pyNext_zipT_end {z TI TO i1 i2 l1 l2 : Addr} {k1 k2 : Nat} {xs ys : Array Value} {a b : Value} {Q : Option Value → Shared → Prop} (hh : A.handled = none) (D : ZipApart z TI TO i1 i2 l1 l2)
  (hz : IsZip s.heap z TI TO .none) (hTI : IsPair s.heap TI (.ref i1) (.ref i2)) (hTO : IsPair s.heap TO a b)
  (h1 : s.heap.IsListIter i1 l1 k1) (h2 : s.heap.IsTupleIter i2 l2 k2) (hl1 : s.heap.IsList l1 xs) (hl2 : s.heap.IsTuple l2 ys) (hend : xs[k1]? = none ∨ ys[k2]? = none)
  (hQ : ∀ h', (∀ c o, c ≠ z → c ≠ TO → c ≠ i1 → c ≠ i2 → s.heap.get? c = some o → h'.get? c = some o) → Q none { s with heap := h' }) : wpAny (model prog w) A (pyNext (.ref z)) Q E s := by
 have ty : s.TypeIs (.ref z) "zip" := ⟨_, hz, rfl⟩
 unfold pyNext
 refine wpAny_bind (wpAny_attempt (wpAny_callSpecial?_slot (name := Str.ofString "__next__") ty F.slot_zip_next (wpAny_call_entry F.slot_zip_next ty F.entry_zip_next (zipT_stop hh D hz hTI hTO h1 h2 hl1 hl2 hend fun h' e hk he => ?_) (F.args_zip_next_1 _))))
 obtain ⟨o, ho, hc⟩ := he
 exact wpAny_bind (wpAny_isInstance (T := "StopIteration") (b := true) ⟨o, ho, hc⟩ isSubtype_stop (wpAny_pure (hQ _ hk)))
end
abbrev zh1 (h : Heap) (l1 : Addr) : Heap := h.push { cls := .type "list_iterator", data := .fields #[.ref l1, .int 0 0] }
abbrev zh2 (h : Heap) (l1 l2 : Addr) : Heap := (zh1 h l1).push { cls := .type "tuple_iterator", data := .fields #[.ref l2, .int 0 0] }
abbrev zh3 (h : Heap) (l1 l2 : Addr) : Heap := (zh2 h l1 l2).push { cls := .type "tuple", data := .seq #[.ref h.objs.size, .ref (zh1 h l1).objs.size] }
abbrev zh4 (h : Heap) (l1 l2 : Addr) : Heap := (zh3 h l1 l2).push { cls := .type "tuple", data := .seq #[.none, .none] }
abbrev zh5 (h : Heap) (l1 l2 : Addr) : Heap := (zh4 h l1 l2).push { cls := .type "zip", data := .fields #[.none, .bool false, .bool false, .ref (zh2 h l1 l2).objs.size, .ref (zh3 h l1 l2).objs.size] }
theorem meets_zipT (l1 l2 : Addr) (xs ys : Array Value) :
  Meets (Builtin.«zip.__new__» ⟨[.type "zip", .ref l1, .ref l2], []⟩) (fun _ R s => s.heap.IsList l1 xs ∧ s.heap.IsTuple l2 ys ∧ R (.ok (.ret (.ref (zh4 s.heap l1 l2).objs.size))) { s with heap := zh5 s.heap l1 l2 }) :=
 .of_wp fun prog w A R s h => by
  obtain ⟨hp, g, d, tk, os⟩ := s
  obtain ⟨hl1, hl2, h⟩ := h
  have hsub := sub_zip
  have hA : Heap.IsList (Shared.heap ⟨hp, g, d, tk, os⟩) l1 xs := hl1
  have hB : Heap.IsTuple (Shared.heap ⟨hp.push { cls := .type "list_iterator", data := .fields #[.ref l1, .int 0 0] }, g, d, tk, os⟩) l2 ys := Heap.IsTuple.push hl2 _
  wp_walk using wpAny_pyIter_list hA, wpAny_pyIter_tuple hB
  exact ⟨_, rfl, h⟩
section
variable {prog : Program} {w : World} {A : Around} {E : Value → Shared → Prop} {s : Shared}
theorem call_zipT {l1 l2 : Addr} {xs ys : Array Value} {Q : Value → Shared → Prop} (hl1 : s.heap.IsList l1 xs) (hl2 : s.heap.IsTuple l2 ys)
  (h : ∀ h', IsZip h' (s.heap.objs.size + 4) (s.heap.objs.size + 2) (s.heap.objs.size + 3) .none → IsPair h' (s.heap.objs.size + 2) (.ref s.heap.objs.size) (.ref (s.heap.objs.size + 1)) →
   IsPair h' (s.heap.objs.size + 3) .none .none → h'.IsListIter s.heap.objs.size l1 0 → h'.IsTupleIter (s.heap.objs.size + 1) l2 0 → h'.objs.size = s.heap.objs.size + 5 →
   (∀ c o, s.heap.get? c = some o → h'.get? c = some o) → Q (.ref (s.heap.objs.size + 4)) { s with heap := h' }) :
  wpAny (model prog w) A (call (.type "zip") [.ref l1, .ref l2]) Q E s := by
 refine callType_new F.called_zip (by decide) (F.typeCall_zip_2 _ _) (F.newCall_zip_2 _ _) (fun obj => F.args_object_init_3 obj _ _) F.entry_zip_new (meets_zipT l1 l2 xs ys) ⟨hl1, hl2, ?_⟩
 have z1 : (zh1 s.heap l1).objs.size = s.heap.objs.size + 1 := Heap.size_push ..
 have z2 : (zh2 s.heap l1 l2).objs.size = s.heap.objs.size + 2 := by rw [Heap.size_push, z1]
 have z3 : (zh3 s.heap l1 l2).objs.size = s.heap.objs.size + 3 := by rw [Heap.size_push, z2]
 have z4 : (zh4 s.heap l1 l2).objs.size = s.heap.objs.size + 4 := by rw [Heap.size_push, z3]
 have z5 : (zh5 s.heap l1 l2).objs.size = s.heap.objs.size + 5 := by rw [Heap.size_push, z4]
 have g5 : (zh5 s.heap l1 l2).get? (zh4 s.heap l1 l2).objs.size = some _ := Heap.get?_push_size _ rfl
 have g4 : (zh5 s.heap l1 l2).get? (zh3 s.heap l1 l2).objs.size = some _ := Heap.get?_push_of_some _ (Heap.get?_push_size _ rfl)
 have g3 : (zh5 s.heap l1 l2).get? (zh2 s.heap l1 l2).objs.size = some _ := Heap.get?_push_of_some _ (Heap.get?_push_of_some _ (Heap.get?_push_size _ rfl))
 have g2 : (zh5 s.heap l1 l2).get? (zh1 s.heap l1).objs.size = some _ := Heap.get?_push_of_some _ (Heap.get?_push_of_some _ (Heap.get?_push_of_some _ (Heap.get?_push_size _ rfl)))
 have g1 : (zh5 s.heap l1 l2).get? s.heap.objs.size = some _ := Heap.get?_push_of_some _ (Heap.get?_push_of_some _ (Heap.get?_push_of_some _ (Heap.get?_push_of_some _ (Heap.get?_push_size _ rfl))))
 show _ ∧ _
 rw [z2, z3, z4] at g5
 rw [z1, z2] at g3
 rw [z3] at g4
 rw [z1] at g2
 rw [z4]
 exact ⟨⟨_, g5, rfl⟩, h _ g5 g3 g4 ⟨_, g1, rfl, rfl⟩ ⟨_, g2, rfl, rfl⟩ z5 fun c o q =>
  Heap.get?_push_of_some _ (Heap.get?_push_of_some _ (Heap.get?_push_of_some _ (Heap.get?_push_of_some _ (Heap.get?_push_of_some _ q))))⟩
end
end UKZ
namespace L2
open PySem PySem.Spec PyProof.Rows
theorem tupIter_at {h h' : Heap} {a t : Addr} {i : Nat} (x : h.IsTupleIter a t i) (k : ∀ o, h.get? a = some o → h'.get? a = some o) : h'.IsTupleIter a t i :=
 let ⟨o, e, r⟩ := x
 ⟨o, k o e, r⟩
def Itzt (K : PySem.W.Frag) (a b : Addr) : It :=
 ⟨fun i H => ∃ (xs ys : List V) (x y : V), SqL K H a xs ∧ SqT K H b ys ∧ xs[i]? = some x ∧ ys[i]? = some y,
  fun i H v H' => ∃ T x y, v = .ref T ∧ H T = none ∧ H' = upd H T (.tup [x, y]) ∧ (∀ xs, SqL K H a xs → xs[i]? = some x) ∧ ∀ ys, SqT K H b ys → ys[i]? = some y,
  fun i H => ∃ xs ys : List V, SqL K H a xs ∧ SqT K H b ys ∧ (xs.length ≤ i ∨ ys.length ≤ i)⟩
theorem turn_zipT {P : Program} {w : World} {K : PySem.W.Frag} {elts : List Expr} {kk : Nat} {tpos : Pos} {a b z TI TO i1 i2 : Addr} (D : ZipApart z TI TO i1 i2 a b) :
  Turn P w K (.Tuple elts kk tpos) (Itzt K a b) [z, TI, TO, i1, i2] z (fun i h => IsZip h z TI TO .none ∧ IsPair h TI (.ref i1) (.ref i2) ∧ (∃ x y, IsPair h TO x y) ∧ h.IsListIter i1 a i ∧ h.IsTupleIter i2 b i) where
 mem := by simp
 obj := fun i h st c hc => by
  obtain ⟨hz, hTI, ⟨x, y, hTO⟩, ⟨o1, e1, _, d1⟩, ⟨o2, e2, _, d2⟩⟩ := st
  have e' : c = z ∨ c = TI ∨ c = TO ∨ c = i1 ∨ c = i2 := by simpa using hc
  rcases e' with q | q | q | q | q
  ·rw [q]; exact ⟨_, hz, fun v q => nomatch q⟩
  ·rw [q]; exact ⟨_, hTI, fun v q => nomatch q⟩
  ·rw [q]; exact ⟨_, hTO, fun v q => nomatch q⟩
  ·rw [q]; exact ⟨o1, e1, fun v q => by rw [d1] at q; cases q⟩
  ·rw [q]; exact ⟨o2, e2, fun v q => by rw [d2] at q; cases q⟩
 keep := fun i h h' st k => by
  obtain ⟨hz, hTI, ⟨x, y, hTO⟩, h1, h2⟩ := st
  exact ⟨k z (by simp) _ hz, k TI (by simp) _ hTI, ⟨x, y, k TO (by simp) _ hTO⟩, h1.at fun o q => k i1 (by simp) o q, tupIter_at h2 fun o q => k i2 (by simp) o q⟩
 item := by
  intro X hP hw hK hc i pins s σ H E I hf st hg
  subst hP hw hK
  obtain ⟨hz, hTI, ⟨x0, y0, hTO⟩, h1, h2⟩ := st
  obtain ⟨xs, ys, x, y, hqx, hqy, hx, hy⟩ := hg
  obtain ⟨its, rv, p, _⟩ := I.list hqx
  obtain ⟨its2, rv2, p2, _⟩ := I.tuple hqy
  obtain ⟨u, hu, ru⟩ := rv.get hx
  obtain ⟨u2, hu2, ru2⟩ := rv2.get hy
  have hzl : z < s.heap.objs.size := Heap.lt_size hz
  refine UKZ.pyNext_zipT D hz hTI hTO h1 h2 p.isList p2 (x := u) (y := u2) (by simpa using hu) (by simpa using hu2) fun h' z' TO' h1' h2' hT hsz hk => ?_
  refine ⟨_, rfl, wpAny_letOwnedTupleGo_zip (s := { s with heap := h' }) z' fun h'' z'' sb => ?_⟩
  have hT2 : h''.get? s.heap.objs.size = some { cls := .type "tuple", data := .seq #[u, u2] } := (sb.2 _ (Nat.ne_of_gt hzl)).trans hT
  have new : ObjOk X.prog X.w (upd H s.heap.objs.size (.tup [x, y])) h'' s.heap.objs.size (.tup [x, y]) :=
   ⟨by show 2 ≤ sizeLine; decide, [u, u2], .cons ru (.cons ru2 .nil), ⟨_, hT2, rfl, _, rfl⟩⟩
  have I1 : Inv X pins σ (upd H s.heap.objs.size (.tup [x, y])) { s with heap := h'' } :=
   I.turnedNew (t' := s.toks) (ch := [z, TI, TO, i1, i2]) (fun c o hb q => (sb.2 c (fun q' => hb (by simp [q']))).trans (hk c o (fun q' => hb (by simp [q'])) (fun q' => hb (by simp [q'])) (fun q' => hb (by simp [q'])) (fun q' => hb (by simp [q'])) q)) hf (Nat.le_refl _) new
  refine ⟨.ref s.heap.objs.size, _, I1, rfl, ⟨_, x, y, rfl, I.hok.fresh (Nat.le_refl _), rfl, fun l hl => by rw [I.list_inj hl hqx]; exact hx, fun l hl => by rw [I.tuple_inj hl hqy]; exact hy⟩, ⟨z'', ?_, ⟨u, u2, ?_⟩, ?_, ?_⟩, fun c hcm => ?_⟩
  ·exact (sb.2 _ D.TIz).trans (hk _ _ D.TIz D.TITO D.TIi1 D.TIi2 hTI)
  ·exact (sb.2 _ D.TOz).trans TO'
  ·exact h1'.at fun o q => (sb.2 _ D.i1z).trans q
  ·exact tupIter_at h2' fun o q => (sb.2 _ D.i2z).trans q
  ·have hlt : c < s.heap.objs.size := by
    have e' : c = z ∨ c = TI ∨ c = TO ∨ c = i1 ∨ c = i2 := by simpa using hcm
    rcases e' with q | q | q | q | q
    ·rw [q]; exact hzl
    ·rw [q]; exact Heap.lt_size hTI
    ·rw [q]; exact Heap.lt_size hTO
    ·rw [q]; obtain ⟨_, e1, _⟩ := h1; exact Heap.lt_size e1
    ·rw [q]; obtain ⟨_, e2, _⟩ := h2; exact Heap.lt_size e2
   rw [upd_ne (Nat.ne_of_lt hlt)]
   exact (hf c hcm).1
 done := by
  intro X hP hw hK hc i pins s σ H E I hf st hg
  subst hP hw hK
  obtain ⟨hz, hTI, ⟨x0, y0, hTO⟩, h1, h2⟩ := st
  obtain ⟨xs, ys, hqx, hqy, hend⟩ := hg
  obtain ⟨its, rv, p, _⟩ := I.list hqx
  obtain ⟨its2, rv2, p2, _⟩ := I.tuple hqy
  have l1 := rv.length
  have l2 := rv2.length
  have he : its.toArray[i]? = none ∨ its2.toArray[i]? = none := by
   rcases hend with q | q
   ·exact .inl (by simp; omega)
   ·exact .inr (by simp; omega)
  exact UKZ.pyNext_zipT_end (I.ok.hd hc) D hz hTI hTO h1 h2 p.isList p2 he fun h' hk => ⟨rfl, I.turnedL (t' := s.toks) (ch := [z, TI, TO, i1, i2]) (fun c o hb q =>
   hk c o (fun q' => hb (by simp [q'])) (fun q' => hb (by simp [q'])) (fun q' => hb (by simp [q'])) (fun q' => hb (by simp [q'])) q) hf⟩
 self := fun A i s Q E st h => wpAny_pyIter_zip st.1 h
def iZipT (K : PySem.W.Frag) (ta : TA) : TI := fun σ H R => ta σ H fun vs H1 => ∃ a b xs ys, vs = [.ref a, .ref b] ∧ SqL K H1 a xs ∧ SqT K H1 b ys ∧ R (Itzt K a b) H1
theorem pi_zipT {X : Cx} {e e2 : Expr} {ta : TA} {p pos tpos : Pos} {elts : List Expr} {kk : Nat} (hg : Gl X "zip") (hm : X.mg "zip" = none) (ha : PA X [e, e2] ta)
  (hs : starEach [e, e2] X.env = (false, eval e X.env) :: starEach [e2] X.env := by rfl) (hpl : (backTo pos (starEach [e2] X.env)).any (·.1) = false := by rfl) :
  PI X (.Tuple elts kk tpos) (.Call (.Name "zip" p) [e, e2] [] pos) (iZipT X.K ta) := by
 intro pins s σ H R I h
 refine Call_ (ld_blt I hg hm boot_zip5 (PyProof.Rows.callWith_type1 (thn (ha pos pins s σ H _ I h) fun us s1 ⟨vs, H1, I1, r1, q1⟩ => ?_) hs hpl))
 obtain ⟨a, b, xs, ys, ex, hqx, hqy, q⟩ := q1
 subst ex
 obtain ⟨u1, u2, rfl, r, r'⟩ := vals2 r1
 cases r
 cases r'
 obtain ⟨its, rv, p1, _⟩ := I1.list hqx
 obtain ⟨its2, rv2, p2, _⟩ := I1.tuple hqy
 have la : a < s1.heap.objs.size := p1.lt
 have lb : b < s1.heap.objs.size := p2.lt
 refine UKZ.call_zipT p1.isList p2 fun h' hz hTI hTO h1 h2 hsz hk => wpAny_pyIter_zip hz ?_
 have I2 : Inv X pins σ H1 { s1 with heap := h' } := I1.kept (t' := s1.toks) hk
 refine ⟨s1.heap.objs.size + 4, [s1.heap.objs.size + 4, s1.heap.objs.size + 2, s1.heap.objs.size + 3, s1.heap.objs.size, s1.heap.objs.size + 1], _, _, H1, rfl, I2, turn_zipT (PySem.W.ktu_apart s1.heap.objs.size a b la lb), ⟨hz, hTI, ⟨_, _, hTO⟩, h1, h2⟩, fun c hcm => ?_, q⟩
 have hle : s1.heap.objs.size ≤ c := by
  have e' : c = s1.heap.objs.size + 4 ∨ c = s1.heap.objs.size + 2 ∨ c = s1.heap.objs.size + 3 ∨ c = s1.heap.objs.size ∨ c = s1.heap.objs.size + 1 := by simpa using hcm
  rcases e' with z | z | z | z | z <;> rw [z] <;> first | exact Nat.le_add_right _ _ | exact Nat.le_refl _
 exact I1.fpOk hle (I1.hok.fresh hle)
end L2
set_option Elab.async false
set_option linter.all false
set_option maxRecDepth 100000
set_option maxHeartbeats 4000000
namespace L2
open PySem PySem.Spec PyProof.Rows
def EntI (p : Int × V) (e : DictEntry) : Prop := e.hash = hashInt p.1 ∧ (∃ t, e.key = .int p.1 t) ∧ RelV p.2 e.val
def KDict (K : PySem.W.Frag) (a : Addr) (kvs : List (Int × V)) : Prop :=
 ∃ (o : Obj) (es : Array DictEntry) (ep : Nat), K.lookup a = some o ∧ o.ExactDict ∧ o.data = .dict es ep ∧ (a == sysModules) = false ∧ Paired EntI kvs es.toList ∧ (kvs.map (·.1)).Nodup
theorem ents_of {P : Program} {w : World} : ∀ {kvs : List (Int × V)} {es : List DictEntry}, Paired EntI kvs es →
  ∃ vs : List (Key × Value), Pairs (mixKind P w) es vs ∧ KV (kvs.map fun p => ((Sum.inl p.1 : Key), p.2)) vs ∧ (∀ e ∈ es, ∃ k, (mixKind P w).is k e.key = true ∧ e.hash = (mixKind P w).hash k) ∧ vs.map (·.1) = kvs.map fun p => (Sum.inl p.1 : Key)
 | _, _, .nil => ⟨[], .nil, .nil, (fun e h => nomatch h), rfl⟩
 | (i, v) :: kvs, e :: es, .cons ⟨h1, ⟨t, h2⟩, h3⟩ r => by
  obtain ⟨vs, g1, g2, g3, g4⟩ := ents_of (P := P) (w := w) r
  have hi : keyIs (Sum.inl i) e.key = true := by
   rw [h2]
   show Value.isInt i (.int i t) = true
   simp [Value.isInt]
  refine ⟨(Sum.inl i, e.val) :: vs, .cons hi rfl g1, .cons ⟨rfl, h3⟩ g2, fun e' he => ?_, by rw [List.map_cons, List.map_cons, g4]⟩
  rcases List.mem_cons.mp he with rfl | he
  ·exact ⟨Sum.inl i, hi, h1⟩
  ·exact g3 e' he
theorem KDict.at {P : Program} {w : World} {K : PySem.W.Frag} {a : Addr} {kvs : List (Int × V)} {h : Heap} (d : KDict K a kvs) (KX : K.In h) :
  (a == sysModules) = false ∧ ∃ vs, KV (kvs.map fun p => ((Sum.inl p.1 : Key), p.2)) vs ∧ h.DictOf (mixKind P w) a vs := by
 obtain ⟨o, es, ep, lk, ex, hd, hs, pr, nd⟩ := d
 obtain ⟨vs, g1, g2, g3, g4⟩ := ents_of (P := P) (w := w) pr
 refine ⟨hs, vs, g2, o, es, ep, KX a o lk, ex, hd, fun e he => g3 e (by simpa using he), g1, ?_⟩
 rw [g4]
 have e : (kvs.map fun p => (Sum.inl p.1 : Key)) = (kvs.map (·.1)).map Sum.inl := by rw [List.map_map]; rfl
 rw [e, List.nodup_iff_pairwise_ne, List.pairwise_map]
 exact (List.nodup_iff_pairwise_ne.mp nd).imp fun h q => h (Sum.inl.inj q)
def tDGetM (K : PySem.W.Frag) (a : Addr) (ty tx : TE) : TE := fun σ H Q => (∃ kvs, KDict K a kvs) ∧ ty σ H fun y H2 => tx σ H2 fun z H3 => ∃ (i : Int) (kvs : List (Int × V)), y = .int i ∧ KDict K a kvs ∧ Q ((kvs.lookup i).getD z) H3
theorem valV_lookup (i : Int) : ∀ kvs : List (Int × V), valV (kvs.map fun p => ((Sum.inl p.1 : Key), p.2)) (Sum.inl i) = kvs.lookup i
 | [] => rfl
 | (j, v) :: r => by
  rw [List.map_cons]
  by_cases e : j = i
  ·subst e
   rw [valV_pos rfl, List.lookup_cons_self]
  ·rw [valV_neg (show ¬ (Sum.inl j : Key) = Sum.inl i from fun q => e (Sum.inl.inj q)), valV_lookup i r, List.lookup_cons]
   have : (i == j) = false := beq_eq_false_iff_ne.mpr fun q => e q.symm
   rw [this]
section
variable {X : Cx} {e f : Expr} {apos cpos p : Pos} {ty tx : TE} {x : Str} {a : Addr}
theorem pe_dgetM (hg : Gl X x) (hm : X.mg x = some (.ref a)) (he : PE X e ty) (hf : PE X f tx) (m : M2 X (.Name x p) "get" apos e f cpos) (hdb : (x == ("__debug__" : Str)) = false := by decide) :
  PE X (.Call (.Attribute (.Name x p) "get" apos) [e, f] [] cpos) (tDGetM X.K a ty tx) := by
 intro pins s σ H Q I h
 obtain ⟨⟨kvs0, d0⟩, h⟩ := h
 refine wpAny_Call_method m.base m.few m.line PySem.F.plainAttrs_dict PySem.F.slot_dict_get PySem.F.type_dict_get (ld_glob I hg hm ?_ hdb)
 obtain ⟨_, vs0, _, dd0⟩ := d0.at (P := X.prog) (w := X.w) I.kIn
 refine ⟨dd0.typeIs, fun b q => ?_, ?_⟩
 ·cases q
  obtain ⟨ob, _, _, h1, h2, _⟩ := dd0
  exact ⟨ob, h1, h2.2.1⟩
 ·rw [m.trees]
  refine Calls.callWith_builtin rfl (Calls.evalArgs_plain (Calls.spliced_cons (thn (he pins s σ H _ I h) fun iv s2 ⟨y, H2, I2, ry, q2⟩ =>
   Calls.spliced_cons (thn (hf pins s2 σ H2 _ I2 q2) fun fv s3 ⟨z, H3, I3, rz, i, kvs, ey, d, q3⟩ => Calls.spliced_nil ?_))))
  subst ey
  obtain ⟨hs, vs, rel, dd⟩ := d.at (P := X.prog) (w := X.w) I3.kIn
  refine call_meetsIn PySem.F.slot_dict_get dd.typeIs PySem.F.entry_dict_get (PySem.F.args_dict_get_3 _ _ _) (meets_dict_get_default (mixKind X.prog X.w) a (kV_is (k := Sum.inl i) ry) hs fv) ⟨_, dd.mapOf, ?_⟩
  refine ⟨_, H3, I3.tok _, ?_, q3⟩
  rw [← valV_lookup]
  exact (rel.val _).getD rz
end
section
variable {X : Cx} (K : PySem.W.Frag) (hK : X.K = K)
include hK
theorem ixk_list : IxR X (rIxL K) := hK ▸ ix_list
theorem ixk_tup : IxR X (rIxT K) := hK ▸ ix_tup
theorem lenk : CallR X (.builtin "len") (fun xs H Q => ∃ p ys, xs = [.ref p] ∧ (SqL K H p ys ∨ SqT K H p ys) ∧ Q (.int ys.length) H) := hK ▸ call_len_seq
theorem allk (hc : X.calm = true) : CallR X (.builtin "all") (rAll K) := hK ▸ cr_all hc
theorem sumk (hc : X.calm = true) : CallR X (.builtin "sum") (rSum K) := hK ▸ cr_sum hc
theorem maxk (hc : X.calm = true) : CallR X (.builtin "max") (rMax K) := hK ▸ cr_max hc
theorem mink (hc : X.calm = true) : CallR X (.builtin "min") (rMin K) := hK ▸ cr_min hc
theorem sortedk : CallR X (.builtin "sorted") (rSorted K) := hK ▸ cr_sorted
theorem slk_list : SlR X (rSlL K) := hK ▸ sl_list
theorem eqDk (hu : X.A.units + 64 < cLine) : OpR X (compareOp .Eq) (rEqD K) := hK ▸ op_eqD hu
theorem neDk (hu : X.A.units + 64 < cLine) : OpR X (compareOp .NotEq) (rNeD K) := hK ▸ op_neD hu
theorem ink : OpR X (compareOp .In) (rIn K false) := hK ▸ op_in_seq
theorem notInk : OpR X (compareOp .NotIn) (rIn K true) := hK ▸ op_notIn_seq
theorem fldk {e : Expr} {f : Str} {pos : Pos} {ta : TE} (he : PE X e ta) (hb : attributeBase e f X.env (eval e X.env) = eval e X.env) : PE X (.Attribute e f pos) (tFld K ta f) := hK ▸ pe_fld he hb
theorem tupk {es : List Expr} {k : Nat} {t : TGs} {n : Nat} {pos : Pos} (hc : X.calm = true) (h : PGs X es t) (hn : (assignEach es X.env).length = n := by rfl) (hst : (assignEach es X.env).findIdx? (·.1) = none := by rfl) :
  PG X (.Tuple es k pos) (gTup K n t) := hK ▸ pg_tup hc h hn hst
theorem dgetMk {e f : Expr} {apos cpos p : Pos} {ty tx : TE} {x : Str} {a : Addr} (hg : Gl X x) (hm : X.mg x = some (.ref a)) (he : PE X e ty) (hf : PE X f tx) (m : M2 X (.Name x p) "get" apos e f cpos) (hdb : (x == ("__debug__" : Str)) = false := by decide) :
  PE X (.Call (.Attribute (.Name x p) "get" apos) [e, f] [] cpos) (tDGetM K a ty tx) := hK ▸ pe_dgetM hg hm he hf m hdb
end
end L2
set_option Elab.async false
set_option linter.all false
set_option maxRecDepth 100000
set_option maxHeartbeats 4000000
namespace UKR
open PySem PySem.Spec PyProof.Rows
theorem nolen_rv : typeLookup (.type "list_reverseiterator") "__len__" = pure none := by
 rw [typeLookup_type, builtinLookup_eq_fast]
 kernel_rfl
theorem hint_rv : typeLookup (.type "list_reverseiterator") "__length_hint__" = pure (some (.builtin "list_reverseiterator.__length_hint__")) := by
 rw [typeLookup_type, builtinLookup_eq_fast]
 kernel_rfl
section
variable {prog : Program} {w : World} {A : Around} {E : Value → Shared → Prop} {s : Shared} {R : Result → Shared → Prop} {r l S : Addr} {items : Array Value}
def RevSt (r l : Addr) (items : Array Value) (i : Nat) (h : Heap) : Prop := i ≤ items.size ∧ h.IsRevIter r l ((items.size : Int) - 1 - (i : Int)) ∧ h.IsList l items
theorem extend_rev (hh : A.handled = none) (hne : l ≠ r) (hz : items.size ≤ sizeLine) (st : RevSt r l items 0 s.heap) (res : Value) (c : Nat) (hSr : S ≠ r) (hSl : S ≠ l)
  (hS : s.heap.get? S = some { cls := .type "list", data := .seq #[] c })
  (hR : ∀ h' tk acc c', (∀ b o, b ≠ S → b ≠ r → s.heap.get? b = some o → h'.get? b = some o) → h'.get? S = some { cls := .type "list", dict := none, data := .seq acc c', slots := #[] } →
   ItemsOf (fun i v => items[items.size - 1 - i]? = some v) acc items.size → R (.ok (.ret res)) { s with heap := h', toks := tk }) :
  wpAny (model prog w) A.in1 (Builtin.List.listExtendWith (.ref S) (.ref r) res)
   (fun fin s' => match fin with | .done f => R (.ok f) s' | .again c' => c'.quiet = true ∧ codeAny (model prog w) A c' R s') (fun e s' => R (.error e) s') s := by
 have W := (Walks.listRev (prog := prog) (w := w) (A := A.in1) hh r l hne items).toS
 have hSf : S ∉ [r, l] := by simp [hSr, hSl]
 have e1 : Builtin.List.listSameRef (.ref S) (.ref r) = false := by simp [Builtin.List.listSameRef, hSr]
 unfold Builtin.List.listExtendWith
 refine wpAny_bind (wpAny_typeOf st.2.1.typeIs ?_)
 rw [if_neg (by rw [e1]; decide)]
 refine wpAny_bind (wpAny_pyIter_revIter st.2.1 ?_)
 refine wpAny_bind (wpAny_holding ?_)
 unfold Builtin.List.listLengthHint
 refine wpAny_bind (wpAny_specialOf st.2.1.typeIs nolen_rv ?_)
 show wpAny _ A.in1 (specialOf (Value.ref r) (Str.ofString "__length_hint__") >>= _) _ _ _
 refine wpAny_bind (wpAny_specialOf st.2.1.typeIs hint_rv ?_)
 generalize hid : ("list_reverseiterator.__length_hint__" : String) = id0
 wp_delta
 rw [show splitId id0 = some ("list_reverseiterator", "__length_hint__") from by subst hid; decide +kernel]
 subst hid
 refine wpAny_bind (wpAny_isInstance (b := true) st.2.1.typeIs (by rw [isSubtype_type]; kernel_rfl) ?_)
 refine wpAny_pure ?_
 rw [if_neg (by decide)]
 refine wpAny_pure ⟨plainId_quiet F.plain_extend_loop _, ?_⟩
 refine codeAny_extend_loopS W hz S hSf res items.size 0 s #[] c rfl (Nat.zero_le _) st hS (ItemsOf.nil _) fun s' acc c' hm hS' ha => ?_
 rw [Moved.eq_with hm]
 refine hR s'.heap s'.toks acc c' (fun b o h1 h2 e => hm.heap b o (fun hb => ?_) e) hS' ha
 rcases List.mem_cons.mp hb with q | q
 ·exact h1 q
 ·exact h2 (List.mem_singleton.mp q)
theorem list_rev {Q : Value → Shared → Prop} (hh : A.handled = none) (hne : l ≠ r) (hz : items.size ≤ sizeLine) (st : RevSt r l items 0 s.heap)
  (hQ : ∀ h' tk acc c', (∀ b o, b ≠ r → s.heap.get? b = some o → h'.get? b = some o) → h'.get? s.heap.objs.size = some { cls := .type "list", dict := none, data := .seq acc c', slots := #[] } →
   ItemsOf (fun i v => items[items.size - 1 - i]? = some v) acc items.size → Q (.ref s.heap.objs.size) { s with heap := h', toks := tk }) :
  wpAny (model prog w) A (call (.type "list") [.ref r]) Q E s := by
 obtain ⟨hi, hr, hl⟩ := st
 have hrl : r < s.heap.objs.size := let ⟨o, ho, _⟩ := hr; Heap.lt_size ho
 have hll : l < s.heap.objs.size := let ⟨o, ho, _⟩ := hl; Heap.lt_size ho
 refine callType_codes (Q₁ := fun obj s1 => obj = .ref s.heap.objs.size ∧ s1 = { s with heap := s.heap.push { cls := .type "list", data := .seq #[] } }) F.called_list (F.typeCall_list_1 _) F.entry_list_init
  (code_list_new _ ⟨rfl, rfl⟩) fun obj s1 h1 => ?_
 obtain ⟨rfl, rfl⟩ := h1
 have hS : (s.heap.push { cls := .type "list", data := .seq #[] }).get? s.heap.objs.size = some { cls := .type "list", data := .seq #[] } := Heap.get?_push_size _ rfl
 refine ⟨⟨_, hS, rfl⟩, F.args_list_init_2 _ _, ?_⟩
 show wpAny _ _ (do let old ← Builtin.List.listItems (.ref _); Builtin.List.listUpdate (.ref _) (fun _ => #[]); letGo old.toList.reverse; Builtin.List.listExtendWith (.ref s.heap.objs.size) (.ref r) .none) _ _ _
 refine wpAny_bind ?_
 unfold Builtin.List.listItems
 refine wpAny_bind (wpAny_seqItems hS rfl (wpAny_pure ?_))
 show wpAny _ _ (updateSeq s.heap.objs.size (fun _ => #[]) >>= fun _ => letGo (#[] : Array Value).toList.reverse >>= fun _ => Builtin.List.listExtendWith (.ref s.heap.objs.size) (.ref r) .none) _ _ _
 refine wpAny_bind (wpAny_updateSeq hS rfl ?_)
 have hS2 := Heap.get?_update_self (Obj.mapSeq (fun _ => (#[] : Array Value))) hS rfl
 refine wpAny_bind (wpAny_letGo ?_)
 have keep : ∀ b o, b ≠ s.heap.objs.size → s.heap.get? b = some o → ((s.heap.push { cls := .type "list", data := .seq #[] }).update s.heap.objs.size (Obj.mapSeq (fun _ => (#[] : Array Value)))).get? b = some o := fun b o hb e =>
  (Heap.get?_update_other _ _ (Ne.symm hb)).trans (Heap.get?_push_of_some _ e)
 refine extend_rev (A := A.in1) hh hne hz ⟨hi, hr.at fun o e => keep r o (Nat.ne_of_lt hrl) e, hl.at fun o e => keep l o (Nat.ne_of_lt hll) e⟩ .none _ (Ne.symm (Nat.ne_of_lt hrl)) (Ne.symm (Nat.ne_of_lt hll)) hS2 fun h' tk acc c' hk hS' ha => ?_
 exact ⟨rfl, hQ h' tk acc c' (fun b o hb e => hk b o (Nat.ne_of_lt (Heap.lt_size e)) hb (keep b o (Nat.ne_of_lt (Heap.lt_size e)) e)) hS' ha⟩
end
end UKR
namespace L2
open PySem PySem.Spec PyProof.Rows
theorem boot_list0 : bootBuiltins "list" = some (.type "list") := by decide +kernel
theorem boot_max0 : bootBuiltins "max" = some (.builtin "max") := by decide +kernel
theorem vals_rev {xs : List V} {its : List Value} {acc : Array Value} (rv : Vals xs its) (h : ItemsOf (fun i v => its.toArray[its.toArray.size - 1 - i]? = some v) acc its.toArray.size) : Vals xs.reverse acc.toList := by
 have hl := rv.length
 refine vals_of_at (by have := h.1; simp at this ⊢; omega) fun j x u h1 h2 => ?_
 have hj : j < its.length := by
  have := (List.getElem?_eq_some_iff.mp h2).1
  rw [Array.length_toList, h.1] at this; simpa using this
 have h3 := h.2 j u (by simpa using h2)
 rw [List.getElem?_reverse (by omega)] at h1
 obtain ⟨u', hu, ru⟩ := rv.get h1
 have e : u = u' := by
  have h4 : its[its.length - 1 - j]? = some u := by simpa using h3
  rw [hl] at hu
  exact Option.some.inj (h4.symm.trans hu)
 rw [e]; exact ru
def tListRev (K : PySem.W.Frag) (ta : TA) : TE := fun σ H Q => ta σ H fun vs H1 => ∃ (a : Addr) (xs : List V), vs = [.ref a] ∧ SqL K H1 a xs ∧ ∀ l, H1 l = none → Q (.ref l) (upd H1 l (.lst xs.reverse))
section
variable {X : Cx}
theorem pe_listrev {e : Expr} {ta : TA} {p pos p2 pos2 : Pos} (hc : X.calm = true) (hg : Gl X "list") (hm : X.mg "list" = none) (hg2 : Gl X "reversed") (hm2 : X.mg "reversed" = none) (ha : PA X [e] ta)
  (hs : starEach [e] X.env = [(false, eval e X.env)] := by rfl)
  (he : starEach [.Call (.Name "reversed" p2) [e] [] pos2] X.env = [(false, eval (.Call (.Name "reversed" p2) [e] [] pos2) X.env)] := by rfl) :
  PE X (.Call (.Name "list" p) [.Call (.Name "reversed" p2) [e] [] pos2] [] pos) (tListRev X.K ta) := by
 intro pins s σ H Q I h
 refine wpAny_Call_Name_kw (ld_blt I hg hm boot_list0 (PyProof.Rows.callWith_type1 ?_ he rfl))
 rw [he]
 refine Calls.spliced_cons ?_
 refine Call_ (ld_blt I hg2 hm2 boot_reversed5 (PyProof.Rows.callWith_type1 (thn (ha pos2 pins s σ H _ I h) fun us s1 ⟨vs, H1, I1, r1, q1⟩ => ?_) hs rfl))
 obtain ⟨a, xs, rfl, hq, q⟩ := q1
 rw [Vals.ref1 r1]
 obtain ⟨its, rv, hl, hz⟩ := I1.list hq
 refine call_reversed_list hl.isList (Calls.spliced_nil ?_)
 have hal : a < s1.heap.objs.size := let ⟨o, ho, _⟩ := hl.isList; Heap.lt_size ho
 have hlen : its.toArray.size = xs.length := by simp [rv.length]
 refine UKR.list_rev (l := a) (items := its.toArray) (I.ok.hd hc) (Nat.ne_of_lt hal) (by rw [hlen]; exact hz) ⟨Nat.zero_le _, ?_, hl.isList.at fun o e => Heap.get?_push_of_some _ e⟩ fun h' tk acc c' hk hS ha => ?_
 ·have e0 : ((its.toArray.size : Nat) : Int) - 1 - ((0 : Nat) : Int) = ((its.toArray.size : Nat) : Int) - 1 := by omega
  rw [e0]
  exact ⟨_, Heap.get?_push_size _ rfl, rfl, rfl⟩
 ·have hrev := vals_rev rv ha
  refine ⟨.ref _, _, I1.laid (t' := tk) (a := (s1.heap.push (revObj a ((its.toArray.size : Int) - 1))).objs.size) (o := .lst xs.reverse) (fun b o e => hk b o (Nat.ne_of_lt (Heap.lt_size e)) (Heap.get?_push_of_some _ e)) ?_ ⟨?_, acc.toList, c', hrev, ?_⟩, rfl, q _ (I1.hok.fresh ?_)⟩
  ·simp [Heap.push]
  ·rw [List.length_reverse]; exact hz
  ·exact hS
  ·simp [Heap.push]
def tMaxV (td : TE) : TE := fun σ H Q => td σ H fun x H1 => ∃ (d : Addr) (kvs : List (Key × V)) (ns : List Int), x = .ref d ∧ H1 d = some (.dK kvs) ∧ kvs.map (·.2) = ns.map V.int ∧ 0 < ns.length ∧ ∀ m, m ∈ ns → (∀ y, y ∈ ns → y ≤ m) → Q (.int m) H1
theorem pe_maxvals {o : Expr} {td : TE} {p pos apos cpos : Pos} (hc : X.calm = true) (hg : Gl X "max") (hm : X.mg "max" = none) (ho : PE X o td)
  (hbase : attributeBase o "values" X.env (eval o X.env) = eval o X.env := by rfl) (hline : (apos.endLine == cpos.line) = true := by rfl)
  (he : starEach [.Call (.Attribute o "values" apos) [] [] cpos] X.env = [(false, eval (.Call (.Attribute o "values" apos) [] [] cpos) X.env)] := by rfl) :
  PE X (.Call (.Name "max" p) [.Call (.Attribute o "values" apos) [] [] cpos] [] pos) (tMaxV td) := by
 intro pins s σ H Q I h
 refine wpAny_Call_Name_kw (ld_blt I hg hm boot_max0 (PyProof.Rows.callWith_builtin1 ?_ he rfl))
 rw [he]
 refine Calls.spliced_cons ?_
 refine wpAny_Call_method (T := "dict") (id := "dict.values") hbase rfl hline F.plainAttrs_dict F.slot_dict_values F.type_dict_values (thn (ho pins s σ H _ I h) fun u s1 ⟨x, H1, I1, rx, d, kvs, ns, ex, hd, hv, hn, q⟩ => ?_)
 subst ex
 obtain rfl : u = Value.ref d := rx
 obtain ⟨_, hs, vs, kv, dd⟩ := dk_of I1.hok hd
 obtain ⟨ep, hm⟩ := dd.dictAt
 refine ⟨dd.typeIs, dd.mapOf.noDict, ?_⟩
 have hdl : d < s1.heap.objs.size := let ⟨o, _, ho, _⟩ := hm; Heap.lt_size ho
 have hlen : vs.length = ns.length := by
  have h1 := Paired.length kv
  have h2 := congrArg List.length hv
  simp only [List.length_map] at h2
  omega
 have hval : ∀ (i : Nat) (v : Value), (∃ k, vs[i]? = some (k, v)) → ∃ t, v = .int (ns.getD i 0) t := by
  rintro i v ⟨k, hi⟩
  have hil : i < kvs.length := by
   have h1 := Paired.length kv
   have := (List.getElem?_eq_some_iff.mp hi).1
   omega
  obtain ⟨u, hu, ru⟩ := kv_get kv (i := i) (k := kvs[i].1) (v := kvs[i].2) (List.getElem?_eq_getElem hil)
  have e1 : u = v := (Prod.mk.inj (Option.some.inj (hu.symm.trans hi))).2
  subst e1
  have h3 : (kvs.map (·.2))[i]? = some kvs[i].2 := by rw [List.getElem?_map, List.getElem?_eq_getElem hil]; rfl
  rw [hv, List.getElem?_map] at h3
  cases h4 : ns[i]? with
  | none => rw [h4] at h3; cases h3
  | some z =>
   rw [h4] at h3
   have h5 : kvs[i].2 = V.int z := (Option.some.inj h3).symm
   rw [h5] at ru
   obtain ⟨t, rfl⟩ := ru
   exact ⟨t, by rw [List.getD_eq_getElem?_getD, h4]; rfl⟩
 have fin : wpAny (model X.prog X.w) X.A (call (.builtin "max") [.ref s1.heap.objs.size]) (EP X pins σ Q) X.xe { s1 with heap := s1.heap.push { cls := .type "dict_values", data := .fields #[.ref d] } } := by
  refine call_max_walk (wpAny_pyIter_values (d := d) (knd := mixKind X.prog X.w) ⟨_, Heap.get?_push_size _ rfl, rfl, rfl⟩ (hm.push _) ?_)
  refine ⟨_, _, _, _, _, _, _, rfl, Walks.dictValues (A := X.A.in1) (knd := mixKind X.prog X.w) (I.ok.hd hc) _ d ?_ vs ep, ⟨⟨_, Heap.get?_push_size _ rfl, rfl, rfl⟩, (hm.push _).push _⟩, ?_, by omega, CmpOf.ints_gt (fun i => ns.getD i 0) hval, ?_⟩
  ·have e : (s1.heap.push { cls := .type "dict_values", data := .fields #[.ref d] }).objs.size = s1.heap.objs.size + 1 := by simp [Heap.push]
   exact Nat.ne_of_lt (by show d < _; rw [e]; exact Nat.lt_succ_of_lt hdl)
  ·intro b hb
   rcases List.mem_cons.mp hb with rfl | hb
   ·simp [Heap.push]
   ·rw [List.mem_singleton.mp hb]
    have e : ∀ o o' : Obj, ((s1.heap.push o).push o').objs.size = s1.heap.objs.size + 1 + 1 := by intro o o'; simp [Heap.push]
    show d < ((s1.heap.push _).push _).objs.size
    rw [e]; exact Nat.lt_succ_of_lt (Nat.lt_succ_of_lt hdl)
  ·intro v h' tk hP hk
   obtain ⟨t, rfl⟩ := hval _ v hP
   obtain ⟨h1, h2⟩ := argBest_gt (fun i => ns.getD i 0) (vs.length - 1)
   refine ⟨.int _, H1, I1.kept (t' := tk) (fun b ob e => hk b ob ?_ (Heap.get?_push_of_some _ (Heap.get?_push_of_some _ e))), ⟨_, rfl⟩, q _ ?_ fun y hy => ?_⟩
   ·intro hb
    have := Heap.lt_size e
    have e2 := List.mem_singleton.mp hb
    rw [e2] at this
    have e3 : (s1.heap.push { cls := .type "dict_values", data := .fields #[.ref d] }).objs.size = s1.heap.objs.size + 1 := by simp [Heap.push]
    have h5 : (s1.heap.push { cls := .type "dict_values", data := .fields #[.ref d] }).objs.size < s1.heap.objs.size := this
    rw [e3] at h5
    exact absurd h5 (Nat.not_lt_of_gt (Nat.lt_succ_self _))
   ·exact PySem.getD_mem (by omega)
   ·obtain ⟨j, hj, rfl⟩ := mem_getD hy
    exact h2 j (by omega)
 show wpAny _ _ (callWith cpos (.builtin "dict.values") [.ref d] [] []) _ X.xe s1
 exact method_meetsIn F.slot_dict_values F.entry_dict_values rfl (PySem.evalArgs_none ⟨rfl, dd.typeIs, F.args_dict_values_1 _, _, meets_dict_values (mixKind X.prog X.w) d hs, ⟨vs, dd⟩, Calls.spliced_nil fin⟩)
theorem listrevk (K : PySem.W.Frag) (hK : X.K = K) {e : Expr} {ta : TA} {p pos p2 pos2 : Pos} (hc : X.calm = true) (hg : Gl X "list") (hm : X.mg "list" = none) (hg2 : Gl X "reversed") (hm2 : X.mg "reversed" = none) (ha : PA X [e] ta)
  (hs : starEach [e] X.env = [(false, eval e X.env)] := by rfl)
  (he : starEach [.Call (.Name "reversed" p2) [e] [] pos2] X.env = [(false, eval (.Call (.Name "reversed" p2) [e] [] pos2) X.env)] := by rfl) :
  PE X (.Call (.Name "list" p) [.Call (.Name "reversed" p2) [e] [] pos2] [] pos) (tListRev K ta) := hK ▸ pe_listrev hc hg hm hg2 hm2 ha hs he
end
end L2
set_option linter.all false
namespace UK
open Vbrgad
def sumR (n : Nat) (f : Nat → Nat) : Nat := ((List.range n).map f).sum
theorem sumR_zero (f : Nat → Nat) : sumR 0 f = 0 := rfl
theorem sumR_succ (n : Nat) (f : Nat → Nat) : sumR (n + 1) f = sumR n f + f n := by
 unfold sumR
 rw [List.range_succ, List.map_append, List.sum_append]
 simp
theorem sumR_congr {n : Nat} {f g : Nat → Nat} (h : ∀ k, k < n → f k = g k) : sumR n f = sumR n g := by
 induction n with
 | zero => rfl
 | succ n ih => rw [sumR_succ, sumR_succ, ih (fun k hk => h k (by omega)), h n (by omega)]
theorem sumR_const0 (n : Nat) : sumR n (fun _ => 0) = 0 := by
 induction n with
 | zero => rfl
 | succ n ih => rw [sumR_succ, ih]
theorem sumR_add (n : Nat) (f g : Nat → Nat) : sumR n (fun k => f k + g k) = sumR n f + sumR n g := by
 induction n with
 | zero => rfl
 | succ n ih => rw [sumR_succ, sumR_succ, sumR_succ, ih]; omega
theorem sumR_comm (n m : Nat) (f : Nat → Nat → Nat) : sumR n (fun i => sumR m (fun j => f i j)) = sumR m (fun j => sumR n (fun i => f i j)) := by
 induction n with
 | zero => rw [sumR_zero]; exact (sumR_const0 m).symm
 | succ n ih =>
  rw [sumR_succ, ih, ← sumR_add]
  exact sumR_congr fun j _ => (sumR_succ n _).symm
theorem sumR_ite (n : Nat) (c : Prop) [Decidable c] (f : Nat → Nat) : (if c then sumR n f else 0) = sumR n (fun k => if c then f k else 0) := by
 by_cases h : c
 ·simp only [if_pos h]
 ·simp only [if_neg h]; exact (sumR_const0 n).symm
theorem sumR_single {n k : Nat} (h : k < n) (f : Nat → Nat) (hf : ∀ j, j < n → j ≠ k → f j = 0) : sumR n f = f k := by
 induction n with
 | zero => omega
 | succ n ih =>
  rw [sumR_succ]
  by_cases e : k = n
  ·subst e
   have : sumR k f = sumR k (fun _ => 0) := sumR_congr fun j hj => hf j (by omega) (by omega)
   rw [this, sumR_const0]; omega
  ·rw [ih (by omega) fun j hj hne => hf j (by omega) hne, hf n (by omega) (fun q => e q.symm)]; omega
theorem sumR_pos {n : Nat} {f : Nat → Nat} : 0 < sumR n f ↔ ∃ k, k < n ∧ 0 < f k := by
 induction n with
 | zero => simp [sumR_zero]
 | succ n ih =>
  rw [sumR_succ]
  constructor
  ·intro h
   by_cases e : 0 < f n
   ·exact ⟨n, by omega, e⟩
   ·obtain ⟨k, hk, hp⟩ := ih.mp (by omega)
    exact ⟨k, by omega, hp⟩
  ·rintro ⟨k, hk, hp⟩
   by_cases e : k = n
   ·subst e; omega
   ·have := ih.mpr ⟨k, by omega, hp⟩
    omega
theorem sumR_le {n : Nat} {f g : Nat → Nat} (h : ∀ k, k < n → f k ≤ g k) : sumR n f ≤ sumR n g := by
 induction n with
 | zero => exact Nat.le_refl _
 | succ n ih => rw [sumR_succ, sumR_succ]; exact Nat.add_le_add (ih fun k hk => h k (by omega)) (h n (by omega))
theorem sumR_le_const {n b : Nat} {f : Nat → Nat} (h : ∀ k, k < n → f k ≤ b) : sumR n f ≤ n * b := by
 induction n with
 | zero => simp [sumR_zero]
 | succ n ih =>
  have := ih fun k hk => h k (by omega)
  have := h n (by omega)
  rw [sumR_succ, Nat.succ_mul]; omega
theorem has_def (m k : Nat) : has m k = true ↔ m / 2 ^ k % 2 = 1 := by unfold has; simp
theorem has_testBit (m k : Nat) : has m k = m.testBit k := by
 unfold has
 rw [Nat.testBit_eq_decide_div_mod_eq]
 by_cases h : m / 2 ^ k % 2 = 1 <;> simp [h]
theorem has_le {m k : Nat} (h : has m k = true) : 2 ^ k ≤ m := by
 rw [has_testBit] at h
 exact Nat.ge_two_pow_of_testBit h
theorem has_sub_self {m k : Nat} (h : has m k = true) : has (m - 2 ^ k) k = false := by
 rw [has_testBit] at *
 have e : m = 2 ^ k + (m - 2 ^ k) := by have := Nat.ge_two_pow_of_testBit h; omega
 rw [e, Nat.testBit_two_pow_add_eq] at h
 simpa using h
theorem div_sub {m k : Nat} (h : has m k = true) : (m - 2 ^ k) / 2 ^ (k + 1) = m / 2 ^ (k + 1) := by
 rw [has_def] at h
 have hp : 0 < 2 ^ k := Nat.two_pow_pos k
 have e1 : m / 2 ^ (k + 1) = m / 2 ^ k / 2 := by rw [Nat.pow_succ, Nat.div_div_eq_div_mul]
 have e2 : (m - 2 ^ k) / 2 ^ (k + 1) = (m - 2 ^ k) / 2 ^ k / 2 := by rw [Nat.pow_succ, Nat.div_div_eq_div_mul]
 have e3 : (m - 2 ^ k) / 2 ^ k = m / 2 ^ k - 1 := by
  have := Nat.sub_mul_div m (2 ^ k) 1
  simpa using this
 rw [e1, e2, e3]
 generalize m / 2 ^ k = q at h
 omega
theorem has_sub_ne {m k j : Nat} (h : has m k = true) (hj : j ≠ k) : has (m - 2 ^ k) j = has m j := by
 rcases Nat.lt_or_gt_of_ne hj with hlt | hgt
 ·have e : m = 2 ^ k + (m - 2 ^ k) := by have := has_le h; omega
  rw [has_testBit, has_testBit]
  conv => rhs; rw [e]
  rw [Nat.testBit_two_pow_add_gt hlt]
 ·obtain ⟨d, rfl⟩ : ∃ d, j = (k + 1) + d := ⟨j - (k + 1), by omega⟩
  unfold has
  rw [Nat.pow_add 2 (k + 1) d, ← Nat.div_div_eq_div_mul, ← Nat.div_div_eq_div_mul, div_sub h]
theorem has_sub {m k : Nat} (j : Nat) (h : has m k = true) : has (m - 2 ^ k) j = (has m j && decide (j ≠ k)) := by
 by_cases e : j = k
 ·subst e; rw [has_sub_self h]; simp
 ·rw [has_sub_ne h e]; simp [e]
theorem has_lt {m n k : Nat} (h : m < 2 ^ n) (hk : has m k = true) : k < n := by
 rcases Nat.lt_or_ge k n with h1 | h1
 ·exact h1
 ·have := has_le hk
  have := Nat.pow_le_pow_right (n := 2) (by omega) h1
  omega
theorem has_full {n k : Nat} (h : k < n) : has (2 ^ n - 1) k = true := by
 rw [has_testBit, Nat.testBit_two_pow_sub_one]; simp [h]
theorem has_ext {a b n : Nat} (ha : a < 2 ^ n) (hb : b < 2 ^ n) (h : ∀ k, k < n → has a k = has b k) : a = b := by
 apply Nat.eq_of_testBit_eq
 intro i
 rw [← has_testBit, ← has_testBit]
 by_cases hi : i < n
 ·exact h i hi
 ·cases e1 : has a i with
  | true => exact absurd (has_lt ha e1) hi
  | false => cases e2 : has b i with
   | true => exact absurd (has_lt hb e2) hi
   | false => rfl
abbrev flagR (row : List Bool) (k : Nat) : Bool := (row[k]?).getD false
def cnt (n : Nat) : List (List Bool) → Nat → Nat
 | [], m => if m = 0 then 1 else 0
 | row :: rest, m => sumR n fun k => if has m k = true ∧ flagR row k = true then cnt n rest (m - 2 ^ k) else 0
theorem ways_get (n : Nat) : ∀ (a : Table) (m : Nat), m < 2 ^ n → (waysTable n a)[m]? = some (cnt n a m)
 | [], m, h => by
  show (((List.range (2 ^ n)).map fun m => if m = 0 then 1 else 0).toArray)[m]? = _
  rw [List.getElem?_toArray, List.getElem?_map, List.getElem?_range h]; rfl
 | row :: rest, m, h => by
  show (waysStep n row (waysTable n rest))[m]? = _
  unfold waysStep
  rw [List.getElem?_toArray, List.getElem?_map, List.getElem?_range h]
  show some (sumR n fun k => if has m k = true ∧ (row[k]?).getD false = true then ((waysTable n rest)[m - 2 ^ k]?).getD 0 else 0) = some (cnt n (row :: rest) m)
  congr 1
  refine sumR_congr fun k _ => ?_
  rw [ways_get n rest (m - 2 ^ k) (Nat.lt_of_le_of_lt (Nat.sub_le _ _) h)]
  rfl
theorem count_eq (n : Nat) (a : Table) : count n a = cnt n a (2 ^ n - 1) := by
 unfold count
 rw [ways_get n a _ (by have := Nat.two_pow_pos n; omega)]; rfl
theorem cnt_swap (n : Nat) (r1 r2 : List Bool) (rest : Table) (m : Nat) : cnt n (r1 :: r2 :: rest) m = cnt n (r2 :: r1 :: rest) m := by
 show sumR n (fun k => if has m k = true ∧ flagR r1 k = true then sumR n (fun j => if has (m - 2 ^ k) j = true ∧ flagR r2 j = true then cnt n rest (m - 2 ^ k - 2 ^ j) else 0) else 0)
  = sumR n (fun k => if has m k = true ∧ flagR r2 k = true then sumR n (fun j => if has (m - 2 ^ k) j = true ∧ flagR r1 j = true then cnt n rest (m - 2 ^ k - 2 ^ j) else 0) else 0)
 simp only [sumR_ite]
 rw [sumR_comm]
 refine sumR_congr fun j _ => sumR_congr fun k _ => ?_
 by_cases hk : has m k = true
 ·by_cases hj : has m j = true
  ·rw [has_sub j hk, has_sub k hj]
   have e : m - 2 ^ k - 2 ^ j = m - 2 ^ j - 2 ^ k := by omega
   rw [e]
   by_cases ejk : j = k
   ·subst ejk; simp
   ·have ekj : ¬ k = j := fun q => ejk q.symm
    cases flagR r1 k <;> cases flagR r2 j <;> simp [hk, hj, ejk, ekj]
  ·rw [has_sub j hk]; simp [hj]
 ·simp only [hk, false_and, if_false]
  by_cases hj : has m j = true
  ·rw [has_sub k hj]; simp [hk]
  ·simp [hj]
theorem cnt_perm (n : Nat) {a b : Table} (h : a.Perm b) : ∀ m, cnt n a m = cnt n b m := by
 induction h with
 | nil => intro m; rfl
 | cons x _ ih =>
  intro m
  exact sumR_congr fun k _ => by rw [ih]
 | swap x y l => intro m; exact cnt_swap n y x l m
 | trans _ _ ih1 ih2 => intro m; rw [ih1, ih2]
theorem perm_erase : ∀ {a : Table} {l : Nat} {r : List Bool}, a[l]? = some r → a.Perm (r :: a.eraseIdx l)
 | [], l, r, h => by simp at h
 | x :: a, 0, r, h => by
  have e : x = r := by simpa using h
  subst e; exact List.Perm.refl _
 | x :: a, l + 1, r, h => by
  have := perm_erase (a := a) (l := l) (r := r) (by simpa using h)
  exact (List.Perm.cons x this).trans (List.Perm.swap r x _)
theorem mapAt_erase {α : Type} (g : α → α) : ∀ (l : Nat) (a : List α), (mapAt g l a).eraseIdx l = a.eraseIdx l
 | _, [] => by cases ‹Nat› <;> rfl
 | 0, x :: r => rfl
 | l + 1, x :: r => by
  show x :: (mapAt g l r).eraseIdx l = x :: r.eraseIdx l
  rw [mapAt_erase g l r]
theorem mapAt_get {α : Type} (g : α → α) : ∀ (l i : Nat) (a : List α), (mapAt g l a)[i]? = if i = l then (a[i]?).map g else a[i]?
 | l, i, [] => by cases l <;> simp [mapAt]
 | 0, 0, x :: r => by simp [mapAt]
 | 0, i + 1, x :: r => by simp [mapAt]
 | l + 1, 0, x :: r => by simp [mapAt]
 | l + 1, i + 1, x :: r => by
  have := mapAt_get g l i r
  simp only [mapAt, List.getElem?_cons_succ, this]
  by_cases e : i = l <;> simp [e]
theorem mapAt_length {α : Type} (g : α → α) : ∀ (l : Nat) (a : List α), (mapAt g l a).length = a.length
 | _, [] => by cases ‹Nat› <;> rfl
 | 0, x :: r => rfl
 | l + 1, x :: r => by simp [mapAt, mapAt_length g l r]
def keepRow (keep : Nat → Bool) (r : List Bool) : List Bool := ((List.range r.length).zip r).map fun x => x.2 && keep x.1
theorem keepRow_flag (keep : Nat → Bool) (r : List Bool) (k : Nat) : flagR (keepRow keep r) k = (flagR r k && keep k) := by
 unfold flagR keepRow
 rw [List.getElem?_map]
 by_cases h : k < r.length
 ·have : ((List.range r.length).zip r)[k]? = some (k, r[k]) := by
   rw [List.getElem?_eq_getElem (by simp [h])]; simp
  rw [this, List.getElem?_eq_getElem h]; simp
 ·have : ((List.range r.length).zip r)[k]? = none := by
   rw [List.getElem?_eq_none_iff]; simp; omega
  rw [this, List.getElem?_eq_none_iff.mpr (by omega)]; simp
theorem flagAt_eq {a : Table} {l : Nat} {r : List Bool} (h : a[l]? = some r) (k : Nat) : flagAt a l k = flagR r k := by
 unfold flagAt flagR; rw [h]; rfl
theorem narrowed_flag (keep : Nat → Bool) (l : Nat) (a : Table) (i k : Nat) : flagAt (narrowed keep l a) i k = (flagAt a i k && (decide (i ≠ l) || keep k)) := by
 unfold narrowed
 show (((mapAt (keepRow keep) l a)[i]?).getD [])[k]?.getD false = _
 rw [mapAt_get]
 by_cases e : i = l
 ·subst e
  simp only [if_true]
  cases h : a[i]? with
  | none => unfold flagAt; rw [h]; simp
  | some r => rw [flagAt_eq h]; have := keepRow_flag keep r k; unfold flagR at this; simp [this, flagR]
 ·simp only [if_neg e]; unfold flagAt; simp [e]
theorem narrowed_length (keep : Nat → Bool) (l : Nat) (a : Table) : (narrowed keep l a).length = a.length := mapAt_length _ _ _
def rest (n : Nat) (a : Table) (l k : Nat) : Nat := cnt n (a.eraseIdx l) (2 ^ n - 1 - 2 ^ k)
theorem count_row {n : Nat} {a : Table} {l : Nat} (hl : l < a.length) : count n a = sumR n fun k => if flagAt a l k = true then rest n a l k else 0 := by
 rw [count_eq]
 have h : a[l]? = some a[l] := List.getElem?_eq_getElem hl
 rw [cnt_perm n (perm_erase h)]
 refine sumR_congr fun k hk => ?_
 rw [flagAt_eq h k]
 unfold rest
 simp only [has_full hk, true_and]
theorem count_narrowed {n : Nat} {a : Table} {l : Nat} (keep : Nat → Bool) (hl : l < a.length) :
  count n (narrowed keep l a) = sumR n fun k => if flagAt a l k = true ∧ keep k = true then rest n a l k else 0 := by
 rw [count_row (l := l) (by rw [narrowed_length]; exact hl)]
 refine sumR_congr fun k hk => ?_
 rw [narrowed_flag]
 have e : rest n (narrowed keep l a) l k = rest n a l k := by
  unfold rest narrowed; rw [mapAt_erase]
 rw [e]; simp
theorem countWith_eq {n : Nat} {a : Table} {l k : Nat} (hl : l < a.length) (hk : k < n) : countWith n a l k = if flagAt a l k = true then rest n a l k else 0 := by
 unfold countWith
 rw [count_narrowed _ hl, sumR_single hk]
 ·simp
 ·intro j hj hne; simp [hne]
theorem possible_iff {n : Nat} {a : Table} {l k : Nat} (hl : l < a.length) (hk : k < n) : possible n a l k = true ↔ flagAt a l k = true ∧ 0 < rest n a l k := by
 unfold possible
 rw [countWith_eq hl hk, decide_eq_true_iff]
 by_cases h : flagAt a l k = true <;> simp [h]
theorem count_eq_sum {n : Nat} {a : Table} {l : Nat} (hl : l < a.length) : count n a = sumR n fun k => countWith n a l k := by
 rw [count_row hl]
 exact sumR_congr fun k hk => (countWith_eq hl hk).symm
theorem possible_narrow (n : Nat) (a : Table) (l k : Nat) : possible n a l k = true ↔ 0 < count n (narrowed (fun j => j == k) l a) := by
 unfold possible countWith; rw [decide_eq_true_iff]
theorem cnt_pos (n : Nat) : ∀ (a : Table) (m : Nat), m < 2 ^ n → (0 < cnt n a m ↔ ∃ p : List Nat, p.length = a.length ∧ p.Nodup ∧ (∀ k, k ∈ p ↔ has m k = true) ∧ ∀ (i k : Nat), p[i]? = some k → flagAt a i k = true)
 | [], m, hm => by
  show 0 < (if m = 0 then 1 else 0) ↔ _
  constructor
  ·intro h
   have e : m = 0 := by
    by_cases e : m = 0
    ·exact e
    ·rw [if_neg e] at h; omega
   subst e
   exact ⟨[], rfl, List.nodup_nil, fun k => by simp [has], fun i k h => by simp at h⟩
  ·rintro ⟨p, hl, _, hm', _⟩
   have ep : p = [] := List.eq_nil_of_length_eq_zero (by simpa using hl)
   subst ep
   have : m = 0 := has_ext (n := n) hm (Nat.two_pow_pos n) fun k _ => by
    cases e : has m k with
    | true => exact absurd ((hm' k).mpr e) (by simp)
    | false => simp [has]
   rw [if_pos this]; omega
 | row :: a, m, hm => by
  show 0 < sumR n _ ↔ _
  rw [sumR_pos]
  constructor
  ·rintro ⟨k, hk, hp⟩
   by_cases hc : has m k = true ∧ flagR row k = true
   ·rw [if_pos hc] at hp
    obtain ⟨p, h1, h2, h3, h4⟩ := (cnt_pos n a (m - 2 ^ k) (Nat.lt_of_le_of_lt (Nat.sub_le _ _) hm)).mp hp
    refine ⟨k :: p, by simp [h1], ?_, ?_, ?_⟩
    ·refine List.nodup_cons.mpr ⟨fun hin => ?_, h2⟩
     have := (h3 k).mp hin
     rw [has_sub_self hc.1] at this; cases this
    ·intro j
     rw [List.mem_cons, h3, has_sub j hc.1]
     by_cases e : j = k
     ·subst e; simp [hc.1]
     ·simp [e]
    ·intro i j hj
     cases i with
     | zero =>
      have e : k = j := by simpa using hj
      subst e
      exact hc.2
     | succ i => exact h4 i j (by simpa using hj)
   ·rw [if_neg hc] at hp; omega
  ·rintro ⟨p, h1, h2, h3, h4⟩
   cases p with
   | nil => simp at h1
   | cons k p =>
    have hk : has m k = true := (h3 k).mp (List.mem_cons_self ..)
    have hf : flagR row k = true := h4 0 k rfl
    refine ⟨k, has_lt hm hk, ?_⟩
    rw [if_pos ⟨hk, hf⟩, cnt_pos n a _ (Nat.lt_of_le_of_lt (Nat.sub_le _ _) hm)]
    have hn := List.nodup_cons.mp h2
    refine ⟨p, by simpa using h1, hn.2, fun j => ?_, fun i j hj => h4 (i + 1) j (by simpa using hj)⟩
    rw [has_sub j hk]
    have := h3 j
    rw [List.mem_cons] at this
    by_cases e : j = k
    ·subst e; simp [hn.1]
    ·simp [e] at this; simp [e, this]
end UK
set_option linter.all false
namespace UK
open Vbrgad
abbrev Ws := List (Nat × Nat)
def lsum {α : Type} (l : List α) (f : α → Nat) : Nat := (l.map f).sum
theorem lsum_nil {α : Type} (f : α → Nat) : lsum [] f = 0 := rfl
theorem lsum_cons {α : Type} (x : α) (l : List α) (f : α → Nat) : lsum (x :: l) f = f x + lsum l f := by unfold lsum; simp
theorem lsum_append {α : Type} (l m : List α) (f : α → Nat) : lsum (l ++ m) f = lsum l f + lsum m f := by unfold lsum; simp
theorem lsum_congr {α : Type} {l : List α} {f g : α → Nat} (h : ∀ x, x ∈ l → f x = g x) : lsum l f = lsum l g := by
 induction l with
 | nil => rfl
 | cons x l ih => rw [lsum_cons, lsum_cons, h x (List.mem_cons_self ..), ih fun y hy => h y (List.mem_cons_of_mem _ hy)]
theorem lsum_zero {α : Type} {l : List α} {f : α → Nat} (h : ∀ x, x ∈ l → f x = 0) : lsum l f = 0 := by
 induction l with
 | nil => rfl
 | cons x l ih => rw [lsum_cons, h x (List.mem_cons_self ..), ih fun y hy => h y (List.mem_cons_of_mem _ hy)]
theorem lsum_add {α : Type} (l : List α) (f g : α → Nat) : lsum l (fun x => f x + g x) = lsum l f + lsum l g := by
 induction l with
 | nil => rfl
 | cons x l ih => rw [lsum_cons, lsum_cons, lsum_cons, ih]; omega
theorem lsum_comm {α β : Type} (l : List α) (m : List β) (f : α → β → Nat) : lsum l (fun x => lsum m fun y => f x y) = lsum m fun y => lsum l fun x => f x y := by
 induction l with
 | nil => rw [lsum_nil]; exact (lsum_zero fun _ _ => rfl).symm
 | cons x l ih =>
  rw [lsum_cons, ih, ← lsum_add]
  exact lsum_congr fun y _ => (lsum_cons x l fun x => f x y).symm
def val (ws : Ws) (T : Nat) : Nat := lsum ws fun p => if p.1 = T then p.2 else 0
theorem val_cons (p : Nat × Nat) (ws : Ws) (T : Nat) : val (p :: ws) T = (if p.1 = T then p.2 else 0) + val ws T := lsum_cons _ _ _
theorem val_out {ws : Ws} {T : Nat} (h : T ∉ ws.map (·.1)) : val ws T = 0 := lsum_zero fun p hp => by
 rw [if_neg (fun (e : p.1 = T) => h (e ▸ List.mem_map_of_mem (f := (·.1)) hp))]
structure WsOk (n : Nat) (ws : Ws) : Prop where
 nd : (ws.map (·.1)).Nodup
 lt : ∀ p ∈ ws, p.1 < 2 ^ n
 pos : ∀ p ∈ ws, 0 < p.2
theorem WsOk.mem {n : Nat} : ∀ {ws : Ws}, WsOk n ws → ∀ {p : Nat × Nat}, p ∈ ws → val ws p.1 = p.2
 | q :: ws, h, p, hp => by
  have hn := List.nodup_cons.mp (show (q.1 :: ws.map (·.1)).Nodup from h.nd)
  have h' : WsOk n ws := ⟨hn.2, fun p hp => h.lt p (List.mem_cons_of_mem _ hp), fun p hp => h.pos p (List.mem_cons_of_mem _ hp)⟩
  rw [val_cons]
  rcases List.mem_cons.mp hp with rfl | hp
  ·rw [if_pos rfl, val_out hn.1]; rfl
  ·rw [if_neg (fun (e : q.1 = p.1) => hn.1 (e ▸ List.mem_map_of_mem (f := (·.1)) hp)), h'.mem hp]; omega
def put (ws : Ws) (T c : Nat) : Ws := if (ws.any fun p => decide (p.1 = T)) = true then ws.map (fun p => if p.1 = T then (p.1, c) else p) else ws ++ [(T, c)]
theorem any_iff (ws : Ws) (T : Nat) : (ws.any fun p => decide (p.1 = T)) = true ↔ T ∈ ws.map (·.1) := by
 rw [List.any_eq_true, List.mem_map]
 constructor
 ·rintro ⟨p, hp, e⟩; exact ⟨p, hp, of_decide_eq_true e⟩
 ·rintro ⟨p, hp, e⟩; exact ⟨p, hp, decide_eq_true e⟩
theorem keys_repl (ws : Ws) (T c : Nat) : (ws.map (fun p => if p.1 = T then (p.1, c) else p)).map (·.1) = ws.map (·.1) := by
 rw [List.map_map]
 refine List.map_congr_left fun p _ => ?_
 show (if p.1 = T then (p.1, c) else p).1 = p.1
 split <;> rfl
theorem val_repl_ne (ws : Ws) {T c S : Nat} (h : S ≠ T) : val (ws.map (fun p => if p.1 = T then (p.1, c) else p)) S = val ws S := by
 induction ws with
 | nil => rfl
 | cons p ws ih =>
  rw [List.map_cons, val_cons, val_cons, ih]
  congr 1
  by_cases e : p.1 = T
  ·rw [if_pos e]
   have : ¬ p.1 = S := fun q => h (q.symm.trans e)
   simp only [if_neg this]
  ·rw [if_neg e]
theorem put_ok {n : Nat} {ws : Ws} (h : WsOk n ws) {T c : Nat} (hT : T < 2 ^ n) (hc : 0 < c) : WsOk n (put ws T c) := by
 unfold put
 by_cases ha : (ws.any fun p => decide (p.1 = T)) = true
 ·rw [if_pos ha]
  refine ⟨by rw [keys_repl]; exact h.nd, fun p hp => ?_, fun p hp => ?_⟩
  ·obtain ⟨q, hq, rfl⟩ := List.mem_map.mp hp
   split
   ·exact h.lt q hq
   ·exact h.lt q hq
  ·obtain ⟨q, hq, rfl⟩ := List.mem_map.mp hp
   split
   ·exact hc
   ·exact h.pos q hq
 ·rw [if_neg ha]
  have hn : T ∉ ws.map (·.1) := fun z => ha ((any_iff ws T).mpr z)
  refine ⟨?_, fun p hp => ?_, fun p hp => ?_⟩
  ·rw [List.map_append, List.nodup_append]
   refine ⟨h.nd, by simp, fun x hx y hy => ?_⟩
   have e : y = T := by simpa using hy
   subst e
   exact fun q => hn (q ▸ hx)
  ·rcases List.mem_append.mp hp with hp | hp
   ·exact h.lt p hp
   ·have e : p = (T, c) := by simpa using hp
    subst e; exact hT
  ·rcases List.mem_append.mp hp with hp | hp
   ·exact h.pos p hp
   ·have e : p = (T, c) := by simpa using hp
    subst e; exact hc
theorem val_put {n : Nat} {ws : Ws} (h : WsOk n ws) (T c S : Nat) (hT : T < 2 ^ n) (hc : 0 < c) : val (put ws T c) S = if S = T then c else val ws S := by
 have hok := put_ok h hT hc
 by_cases e : S = T
 ·subst e
  rw [if_pos rfl]
  have hm : (S, c) ∈ put ws S c := by
   unfold put
   by_cases ha : (ws.any fun p => decide (p.1 = S)) = true
   ·rw [if_pos ha]
    obtain ⟨p, hp, e⟩ := List.mem_map.mp ((any_iff ws S).mp ha)
    exact List.mem_map.mpr ⟨p, hp, by rw [if_pos e, e]⟩
   ·rw [if_neg ha]; simp
  exact hok.mem hm
 ·rw [if_neg e]
  unfold put
  by_cases ha : (ws.any fun p => decide (p.1 = T)) = true
  ·rw [if_pos ha, val_repl_ne ws e]
  ·rw [if_neg ha]
   unfold val
   rw [lsum_append, lsum_cons, lsum_nil]
   have : ¬ T = S := fun q => e q.symm
   simp only [if_neg this]; omega
theorem WsOk.length_le {n : Nat} {ws : Ws} (h : WsOk n ws) : ws.length ≤ 2 ^ n := by
 have : ∀ (m : Nat) (l : List Nat), l.Nodup → (∀ x ∈ l, x < m) → l.length ≤ m := by
  intro m
  induction m with
  | zero =>
   intro l _ hl
   cases l with
   | nil => simp
   | cons x l => exact absurd (hl x (List.mem_cons_self ..)) (by omega)
  | succ m ih =>
   intro l hn hl
   by_cases hm : m ∈ l
   ·have h1 := ih (l.erase m) (hn.erase m) fun x hx => by
     have := hl x (List.mem_of_mem_erase hx)
     have hne : x ≠ m := fun e => by subst e; exact (List.Nodup.not_mem_erase hn) hx
     omega
    rw [List.length_erase_of_mem hm] at h1
    omega
   ·have := ih l hn fun x hx => by
     have := hl x hx
     have hne : x ≠ m := fun e => hm (e ▸ hx)
     omega
    omega
 have := this (2 ^ n) (ws.map (·.1)) h.nd fun x hx => by
  obtain ⟨p, hp, rfl⟩ := List.mem_map.mp hx
  exact h.lt p hp
 rwa [List.length_map] at this
theorem has_add {t k : Nat} (h : has t k = false) (j : Nat) : has (t + 2 ^ k) j = (has t j || decide (j = k)) := by
 have hk : has (t + 2 ^ k) k = true := by
  rw [has_testBit] at *
  rw [Nat.add_comm, Nat.testBit_two_pow_add_eq, h]; rfl
 have := has_sub j hk
 rw [Nat.add_sub_cancel] at this
 by_cases e : j = k
 ·subst e; rw [hk]; simp
 ·rw [this]; simp [e]
theorem add_lt {t k n : Nat} (ht : t < 2 ^ n) (hk : k < n) (h : has t k = false) : t + 2 ^ k < 2 ^ n := by
 apply Nat.lt_pow_two_of_testBit
 intro i hi
 rw [← has_testBit, has_add h]
 have h1 : has t i = false := by
  cases e : has t i with
  | true => exact absurd (has_lt ht e) (by omega)
  | false => rfl
 rw [h1]; simp; omega
theorem or_two_pow {t k : Nat} (h : has t k = false) : t ||| 2 ^ k = t + 2 ^ k := by
 apply Nat.eq_of_testBit_eq
 intro i
 rw [Nat.testBit_or, Nat.testBit_two_pow, ← has_testBit, ← has_testBit, has_add h]
 congr 1
 exact decide_eq_decide.mpr ⟨fun e => e.symm, fun e => e.symm⟩
def bump (ws : Ws) (T c : Nat) : Ws := put ws T (val ws T + c)
theorem bump_ok {n : Nat} {ws : Ws} (h : WsOk n ws) {T c : Nat} (hT : T < 2 ^ n) (hc : 0 < c) : WsOk n (bump ws T c) := put_ok h hT (by omega)
theorem val_bump {n : Nat} {ws : Ws} (h : WsOk n ws) {T c : Nat} (hT : T < 2 ^ n) (hc : 0 < c) (S : Nat) : val (bump ws T c) S = val ws S + if S = T then c else 0 := by
 unfold bump
 rw [val_put h T _ S hT (by omega)]
 by_cases e : S = T
 ·subst e; simp
 ·simp [e]
def grow1 (t c : Nat) (g : Ws) (k : Nat) : Ws := if has t k = true then g else bump g (t + 2 ^ k) c
def growK (ks : List Nat) (t c : Nat) (g : Ws) : Ws := ks.foldl (grow1 t c) g
def grow (ws : Ws) (ks : List Nat) : Ws := ws.foldl (fun g p => growK ks p.1 p.2 g) []
theorem grow1_ok {n t c k : Nat} {g : Ws} (h : WsOk n g) (ht : t < 2 ^ n) (hc : 0 < c) (hk : k < n) : WsOk n (grow1 t c g k) := by
 unfold grow1
 cases e : has t k with
 | true => exact h
 | false => exact bump_ok h (add_lt ht hk e) hc
theorem growK_ok {n t c : Nat} (ht : t < 2 ^ n) (hc : 0 < c) : ∀ {ks : List Nat} {g : Ws}, WsOk n g → (∀ k ∈ ks, k < n) → WsOk n (growK ks t c g)
 | [], g, h, _ => h
 | k :: ks, g, h, hk => growK_ok ht hc (ks := ks) (grow1_ok h ht hc (hk k (List.mem_cons_self ..))) fun j hj => hk j (List.mem_cons_of_mem _ hj)
theorem growK_val {n t c : Nat} (ht : t < 2 ^ n) (hc : 0 < c) (S : Nat) : ∀ {ks : List Nat} {g : Ws}, WsOk n g → (∀ k ∈ ks, k < n) → val (growK ks t c g) S = val g S + lsum ks fun k => if has t k = false ∧ S = t + 2 ^ k then c else 0
 | [], g, h, _ => by rw [lsum_nil]; rfl
 | k :: ks, g, h, hk => by
  show val (growK ks t c (grow1 t c g k)) S = _
  rw [growK_val ht hc S (grow1_ok h ht hc (hk k (List.mem_cons_self ..))) fun j hj => hk j (List.mem_cons_of_mem _ hj), lsum_cons]
  have e : val (grow1 t c g k) S = val g S + if has t k = false ∧ S = t + 2 ^ k then c else 0 := by
   unfold grow1
   cases e : has t k with
   | true => simp
   | false =>
    rw [if_neg Bool.false_ne_true, val_bump h (add_lt ht (hk k (List.mem_cons_self ..)) e) hc]
    simp
  rw [e]; omega
theorem foldl_ok {n : Nat} {ks : List Nat} (hk : ∀ k ∈ ks, k < n) : ∀ {ws g : Ws}, (∀ p ∈ ws, p.1 < 2 ^ n) → (∀ p ∈ ws, 0 < p.2) → WsOk n g → WsOk n (ws.foldl (fun g p => growK ks p.1 p.2 g) g)
 | [], g, _, _, h => h
 | p :: ws, g, h1, h2, h => foldl_ok hk (ws := ws) (fun q hq => h1 q (List.mem_cons_of_mem _ hq)) (fun q hq => h2 q (List.mem_cons_of_mem _ hq)) (growK_ok (h1 p (List.mem_cons_self ..)) (h2 p (List.mem_cons_self ..)) h hk)
theorem foldl_val {n : Nat} {ks : List Nat} (hk : ∀ k ∈ ks, k < n) (S : Nat) : ∀ {ws g : Ws}, (∀ p ∈ ws, p.1 < 2 ^ n) → (∀ p ∈ ws, 0 < p.2) → WsOk n g →
  val (ws.foldl (fun g p => growK ks p.1 p.2 g) g) S = val g S + lsum ws fun p => lsum ks fun k => if has p.1 k = false ∧ S = p.1 + 2 ^ k then p.2 else 0
 | [], g, _, _, h => by rw [lsum_nil]; rfl
 | p :: ws, g, h1, h2, h => by
  have hok := growK_ok (h1 p (List.mem_cons_self ..)) (h2 p (List.mem_cons_self ..)) h hk
  rw [List.foldl_cons, foldl_val hk S (ws := ws) (fun q hq => h1 q (List.mem_cons_of_mem _ hq)) (fun q hq => h2 q (List.mem_cons_of_mem _ hq)) hok,
   growK_val (h1 p (List.mem_cons_self ..)) (h2 p (List.mem_cons_self ..)) S h hk, lsum_cons]
  omega
theorem wsOk_nil (n : Nat) : WsOk n [] := ⟨List.nodup_nil, (fun p hp => nomatch hp), (fun p hp => nomatch hp)⟩
theorem grow_ok {n : Nat} {ws : Ws} {ks : List Nat} (h : WsOk n ws) (hk : ∀ k ∈ ks, k < n) : WsOk n (grow ws ks) := foldl_ok hk h.lt h.pos (wsOk_nil n)
theorem grow_val {n : Nat} {ws : Ws} {ks : List Nat} (h : WsOk n ws) (hk : ∀ k ∈ ks, k < n) (S : Nat) : val (grow ws ks) S = lsum ks fun k => if has S k = true then val ws (S - 2 ^ k) else 0 := by
 unfold grow
 rw [foldl_val hk S h.lt h.pos (wsOk_nil n), lsum_comm]
 show 0 + _ = _
 rw [Nat.zero_add]
 refine lsum_congr fun k _ => ?_
 by_cases hS : has S k = true
 ·rw [if_pos hS]
  unfold val
  refine lsum_congr fun p _ => ?_
  by_cases e : p.1 = S - 2 ^ k
  ·rw [if_pos e, if_pos]
   have h1 := has_le hS
   refine ⟨by rw [e]; exact has_sub_self hS, by omega⟩
  ·rw [if_neg e, if_neg]
   rintro ⟨_, h2⟩
   exact e (by omega)
 ·rw [if_neg hS]
  refine lsum_zero fun p _ => ?_
  rw [if_neg]
  rintro ⟨h1, h2⟩
  apply hS
  rw [h2, has_add h1]; simp
def takes (left : List (List Nat)) : Ws := left.foldl grow [(0, 1)]
theorem wsOk_one (n : Nat) : WsOk n [(0, 1)] := by
 refine ⟨by simp, fun p hp => ?_, fun p hp => ?_⟩
 ·have e : p = (0, 1) := by simpa using hp
  subst e; exact Nat.two_pow_pos n
 ·have e : p = (0, 1) := by simpa using hp
  subst e; exact Nat.one_pos
theorem foldl_grow_ok {n : Nat} : ∀ {left : List (List Nat)} {ws : Ws}, WsOk n ws → (∀ ks ∈ left, ∀ k ∈ ks, k < n) → WsOk n (left.foldl grow ws)
 | [], ws, h, _ => h
 | ks :: left, ws, h, hk => foldl_grow_ok (left := left) (grow_ok h (hk ks (List.mem_cons_self ..))) fun js hj => hk js (List.mem_cons_of_mem _ hj)
theorem takes_ok {n : Nat} {left : List (List Nat)} (hk : ∀ ks ∈ left, ∀ k ∈ ks, k < n) : WsOk n (takes left) := foldl_grow_ok (wsOk_one n) hk
def leftOf (n : Nat) (r : List Bool) : List Nat := (List.range n).filter (flagR r)
theorem leftOf_lt {n : Nat} {r : List Bool} : ∀ k ∈ leftOf n r, k < n := fun k hk => List.mem_range.mp (List.mem_filter.mp hk).1
theorem leftOf_mem {n : Nat} {r : List Bool} {k : Nat} : k ∈ leftOf n r ↔ k < n ∧ flagR r k = true := by unfold leftOf; rw [List.mem_filter, List.mem_range]
theorem lsum_filter {α : Type} (p : α → Bool) (f : α → Nat) : ∀ l : List α, lsum (l.filter p) f = lsum l fun x => if p x = true then f x else 0
 | [] => rfl
 | x :: l => by
  rw [List.filter_cons, lsum_cons, ← lsum_filter p f l]
  cases h : p x with
  | true => rw [if_pos rfl, if_pos rfl, lsum_cons]
  | false => rw [if_neg Bool.false_ne_true, if_neg Bool.false_ne_true]; omega
theorem takes_rev (n : Nat) : ∀ (a : Table) (T : Nat), val (takes ((a.map (leftOf n)).reverse)) T = cnt n a T
 | [], T => by
  show val [(0, 1)] T = if T = 0 then 1 else 0
  rw [val_cons]
  by_cases e : T = 0
  ·subst e; rfl
  ·rw [if_neg e, if_neg (fun q => e q.symm)]; rfl
 | r :: a, T => by
  have hok : WsOk n (takes ((a.map (leftOf n)).reverse)) := takes_ok fun ks hks => by
   rw [List.mem_reverse] at hks
   obtain ⟨r, _, rfl⟩ := List.mem_map.mp hks
   exact leftOf_lt
  have e : takes (((r :: a).map (leftOf n)).reverse) = grow (takes ((a.map (leftOf n)).reverse)) (leftOf n r) := by
   unfold takes
   rw [List.map_cons, List.reverse_cons, List.foldl_append]; rfl
  rw [e, grow_val hok leftOf_lt]
  unfold leftOf
  rw [lsum_filter]
  show sumR n _ = sumR n _
  refine sumR_congr fun k _ => ?_
  rw [← takes_rev n a (T - 2 ^ k)]
  cases flagR r k <;> cases has T k <;> simp
  rfl
theorem takes_val (n : Nat) (a : Table) (T : Nat) : val (takes (a.map (leftOf n))) T = cnt n a T := by
 have := takes_rev n a.reverse T
 rw [List.map_reverse, List.reverse_reverse] at this
 rw [this, cnt_perm n (List.reverse_perm a)]
end UK
set_option linter.all false
namespace UK
open Vbrgad
structure Opened (s : State) : Prop where
 op : s.opened = true
 n1 : 1 ≤ s.truth.length
 n10 : s.truth.length ≤ 10
 pair : ∀ k, k < s.truth.length → k ∈ s.truth
 tlt : ∀ k ∈ s.truth, k < s.truth.length
 llen : s.lookSorts.length = s.truth.length
 klen : s.kindSorts.length = s.truth.length
 plen : s.prices.length = s.truth.length
 prange : ∀ p ∈ s.prices, 1 ≤ p ∧ p ≤ 1000000
 alen : s.allowed.length = s.truth.length
 olen : s.outcomes.length = 8
 orow : ∀ (z : Nat) (row : List Nat), s.outcomes[z]? = some (some row) → row.length = s.truth.length ∧ ∀ x ∈ row, x ≤ 9
 tru : ∀ (l k : Nat), s.truth[l]? = some k → flagAt s.allowed l k = true
def StOk (s : State) : Prop := s = start ∨ Opened s
theorem StOk.opened {s : State} (h : StOk s) (e : s.opened = true) : Opened s := by
 rcases h with rfl | h
 ·cases e
 ·exact h
theorem StOk.closed {s : State} (h : StOk s) (e : s.opened = false) : s = start := by
 rcases h with rfl | h
 ·rfl
 ·rw [h.op] at e; cases e
theorem truth_nodup {l : List Nat} (h1 : ∀ k, k < l.length → k ∈ l) : l.Nodup := by
 have hp : ∀ (r m : List Nat), r.Nodup → (∀ x, x ∈ r → x ∈ m) → m.length ≤ r.length → r.Perm m := by
  intro r
  induction r with
  | nil =>
   intro m _ _ hl
   have : m = [] := List.eq_nil_of_length_eq_zero (by simpa using hl)
   rw [this]
  | cons x r ih =>
   intro m hn hs hl
   have hx : x ∈ m := hs x (List.mem_cons_self ..)
   have hn' := List.nodup_cons.mp hn
   refine (List.Perm.cons x (ih (m.erase x) hn'.2 (fun y hy => ?_) ?_)).trans (List.perm_cons_erase hx).symm
   ·have hne : y ≠ x := fun e => hn'.1 (e ▸ hy)
    exact (List.mem_erase_of_ne hne).mpr (hs y (List.mem_cons_of_mem _ hy))
   ·have := List.length_erase_of_mem hx
    simp at hl ⊢; omega
 exact (hp (List.range l.length) l List.nodup_range (fun x hx => h1 x (List.mem_range.mp hx)) (by simp)).nodup_iff.mp List.nodup_range
theorem kindOf_at {s : State} {l k : Nat} (h : s.truth[l]? = some k) : kindOf s l = k := by unfold kindOf; rw [h]; rfl
theorem Opened.show {s : State} (h : Opened s) {l : Nat} {keep : Nat → Bool} (hk : keep (kindOf s l) = true) : Opened (show_ s l keep) := by
 refine ⟨h.op, h.n1, h.n10, h.pair, h.tlt, h.llen, h.klen, h.plen, h.prange, ?_, h.olen, h.orow, fun i k e => ?_⟩
 ·show (narrowed keep l s.allowed).length = _
  rw [narrowed_length]; exact h.alen
 ·show flagAt (narrowed keep l s.allowed) i k = true
  rw [narrowed_flag, h.tru i k e]
  by_cases hi : i = l
  ·subst hi
   rw [kindOf_at (s := s) e] at hk
   rw [hk]; simp
  ·simp [hi]
theorem Opened.tell {s : State} (h : Opened s) {z : Nat} {l : List Nat} (hl : l.length = s.truth.length) (hx : ∀ x ∈ l, x ≤ 9) : Opened { s with outcomes := mapAt (fun _ => some l) z s.outcomes } := by
 refine ⟨h.op, h.n1, h.n10, h.pair, h.tlt, h.llen, h.klen, h.plen, h.prange, h.alen, ?_, fun i row e => ?_, h.tru⟩
 ·show (mapAt (fun _ => some l) z s.outcomes).length = 8
  rw [mapAt_length]; exact h.olen
 ·have e' : (mapAt (fun _ => some l) z s.outcomes)[i]? = some (some row) := e
  rw [mapAt_get] at e'
  by_cases hi : i = z
  ·subst hi
   rw [if_pos rfl] at e'
   cases q : s.outcomes[i]? with
   | none => rw [q] at e'; cases e'
   | some o => rw [q] at e'; cases e'; exact ⟨hl, hx⟩
  ·rw [if_neg hi] at e'; exact h.orow i row e'
theorem sound_iff {truth looks kinds : List Nat} {prices : List Int} (hn : truth.length ≤ 10) :
  sound truth looks kinds prices = true ↔ 1 ≤ truth.length ∧ isPairing truth.length truth = true ∧ looks.length = truth.length ∧ kinds.length = truth.length ∧ prices.length = truth.length ∧
   ∀ l, l < truth.length → (looks[l]?).getD 0 = (kinds[(truth[l]?).getD 0]?).getD 0 := by
 unfold sound
 simp only [Bool.and_eq_true, decide_eq_true_eq, List.all_eq_true, List.mem_range, beq_iff_eq]
 constructor
 ·rintro ⟨h1, _, h2, h3, h4, h5, h6⟩; exact ⟨h1, h2, h3, h4, h5, h6⟩
 ·rintro ⟨h1, h2, h3, h4, h5, h6⟩; exact ⟨h1, hn, h2, h3, h4, h5, h6⟩
theorem pairing_mem {truth : List Nat} (h : isPairing truth.length truth = true) : ∀ k, k < truth.length → k ∈ truth := by
 unfold isPairing at h
 rw [decide_eq_true rfl, Bool.true_and, List.all_eq_true] at h
 intro k hk
 have := h k (List.mem_range.mpr hk)
 rwa [List.contains_iff_mem] at this
theorem pairing_lt {truth : List Nat} (h : ∀ k, k < truth.length → k ∈ truth) : ∀ k ∈ truth, k < truth.length := by
 intro k hk
 have hnd := truth_nodup h
 have hp : ∀ (r m : List Nat), r.Nodup → (∀ x, x ∈ r → x ∈ m) → m.length ≤ r.length → ∀ x ∈ m, x ∈ r := by
  intro r
  induction r with
  | nil =>
   intro m _ _ hl x hx
   have : m = [] := List.eq_nil_of_length_eq_zero (by simpa using hl)
   rw [this] at hx; exact hx
  | cons y r ih =>
   intro m hn hs hl x hx
   have hy : y ∈ m := hs y (List.mem_cons_self ..)
   have hn' := List.nodup_cons.mp hn
   by_cases e : x = y
   ·subst e; exact List.mem_cons_self ..
   ·refine List.mem_cons_of_mem _ (ih (m.erase y) hn'.2 (fun z hz => ?_) ?_ x ((List.mem_erase_of_ne e).mpr hx))
    ·have hne : z ≠ y := fun q => hn'.1 (q ▸ hz)
     exact (List.mem_erase_of_ne hne).mpr (hs z (List.mem_cons_of_mem _ hz))
    ·have := List.length_erase_of_mem hy
     simp at hl ⊢; omega
 exact List.mem_range.mp (hp (List.range truth.length) truth List.nodup_range (fun x hx => h x (List.mem_range.mp hx)) (by simp) k hk)
theorem begun_ok {truth looks kinds : List Nat} {prices : List Int} (hn : truth.length ≤ 10) (hs : sound truth looks kinds prices = true) (hp : ∀ p ∈ prices, 1 ≤ p ∧ p ≤ 1000000) : Opened (begun truth looks kinds prices) := by
 obtain ⟨h1, h2, h3, h4, h5, h6⟩ := (sound_iff hn).mp hs
 have hpm := pairing_mem h2
 refine ⟨rfl, h1, hn, hpm, pairing_lt hpm, h3, h4, h5, hp, ?_, rfl, fun z row e => ?_, fun l k e => ?_⟩
 ·show (looks.map _).length = truth.length
  rw [List.length_map]; exact h3
 ·have e' : (List.replicate SITUATIONS (none : Option (List Nat)))[z]? = some (some row) := e
  rw [List.getElem?_replicate] at e'
  split at e' <;> cases e'
 ·have e' : truth[l]? = some k := e
  have hl := (List.getElem?_eq_some_iff.mp e').1
  have hk := pairing_lt hpm k (List.mem_of_getElem? e')
  have h6' := h6 l hl
  rw [e'] at h6'
  show ((((looks.map fun a => kinds.map fun b => a == b)[l]?).getD [])[k]?).getD false = true
  have hll : l < looks.length := by omega
  have hkk : k < kinds.length := by omega
  rw [List.getElem?_map, List.getElem?_eq_getElem hll]
  rw [List.getElem?_eq_getElem hll] at h6'
  have h6'' : looks[l] = kinds[k] := by
   have : kinds[(some k).getD 0]? = some kinds[k] := List.getElem?_eq_getElem hkk
   rw [this] at h6'; simpa using h6'
  show ((kinds.map fun b => looks[l] == b)[k]?).getD false = true
  rw [List.getElem?_map, List.getElem?_eq_getElem (by omega)]
  show (looks[l] == kinds[k]) = true
  rw [h6'']; simp
theorem leftOf_keep (n : Nat) (keep : Nat → Bool) (r : List Bool) : leftOf n (keepRow keep r) = (leftOf n r).filter keep := by
 unfold leftOf
 rw [List.filter_filter]
 refine List.filter_congr fun k _ => ?_
 rw [keepRow_flag, Bool.and_comm]
theorem narrowed_left (n : Nat) (keep : Nat → Bool) : ∀ (l : Nat) (t : Table) (r : List Bool), t[l]? = some r → (narrowed keep l t).map (leftOf n) = (t.map (leftOf n)).set l ((leftOf n r).filter keep)
 | _, [], r, h => by simp at h
 | 0, x :: t, r, h => by
  have e : x = r := by simpa using h
  subst e
  show leftOf n (keepRow keep x) :: t.map (leftOf n) = _
  rw [leftOf_keep]; rfl
 | l + 1, x :: t, r, h => by
  show leftOf n x :: (narrowed keep l t).map (leftOf n) = leftOf n x :: (t.map (leftOf n)).set l _
  rw [narrowed_left n keep l t r (by simpa using h)]
theorem flagAt_mem {n : Nat} {t : Table} {l k : Nat} {r : List Bool} (h : t[l]? = some r) (hk : k < n) : flagAt t l k = true ↔ k ∈ leftOf n r := by
 rw [flagAt_eq h, leftOf_mem]
 exact ⟨fun q => ⟨hk, q⟩, fun q => q.2⟩
theorem leftOf_length (n : Nat) (r : List Bool) : (leftOf n r).length ≤ n := by
 unfold leftOf
 exact Nat.le_trans (List.length_filter_le _ _) (by simp)
theorem begun_left (n : Nat) (looks kinds : List Nat) (hk : kinds.length = n) : ((looks.map fun a => kinds.map fun b => a == b).map (leftOf n)) = looks.map fun a => (List.range n).filter fun i => kinds.getD i 0 == a := by
 rw [List.map_map]
 refine List.map_congr_left fun a _ => ?_
 show leftOf n (kinds.map fun b => a == b) = _
 unfold leftOf
 refine List.filter_congr fun i hi => ?_
 have hi' := List.mem_range.mp hi
 unfold flagR
 rw [List.getElem?_map, List.getD_eq_getElem?_getD, List.getElem?_eq_getElem (by omega)]
 show (a == kinds[i]) = (kinds[i] == a)
 exact Bool.beq_comm
theorem truth_fits {s : State} (h : Opened s) : 0 < count s.truth.length s.allowed := by
 rw [count_eq, cnt_pos _ _ _ (by have := Nat.two_pow_pos s.truth.length; omega)]
 refine ⟨s.truth, h.alen.symm, truth_nodup h.pair, fun k => ?_, fun i k e => h.tru i k e⟩
 constructor
 ·intro hk; exact has_full (h.tlt k hk)
 ·intro hk
  exact h.pair k (has_lt (by have := Nat.two_pow_pos s.truth.length; omega) hk)
theorem truth_possible {s : State} (h : Opened s) {l k : Nat} (e : s.truth[l]? = some k) : possible s.truth.length s.allowed l k = true := by
 rw [possible_narrow]
 have := truth_fits (h.show (l := l) (keep := fun j => j == k) (by rw [kindOf_at e]; simp))
 exact this
theorem count_pos_iff {n : Nat} {t : Table} (ht : t.length = n) : 0 < count n t ↔ ∃ p : List Nat, p.length = n ∧ p.Nodup ∧ (∀ k ∈ p, k < n) ∧ ∀ i k, p[i]? = some k → flagAt t i k = true := by
 have h2 : 2 ^ n - 1 < 2 ^ n := by have := Nat.two_pow_pos n; omega
 rw [count_eq, cnt_pos n t _ h2]
 constructor
 ·rintro ⟨p, h1, hn, h3, h4⟩
  exact ⟨p, h1.trans ht, hn, fun k hk => has_lt h2 ((h3 k).mp hk), h4⟩
 ·rintro ⟨p, h1, hn, h3, h4⟩
  refine ⟨p, h1.trans ht.symm, hn, fun k => ⟨fun hk => has_full (h3 k hk), fun hk => ?_⟩, h4⟩
  have hk' : k < n := has_lt h2 hk
  -- p is a nodup list of n numbers below n
  have hall : ∀ (m : Nat) (l : List Nat), l.Nodup → (∀ x ∈ l, x < m) → l.length = m → ∀ x, x < m → x ∈ l := by
   intro m
   induction m with
   | zero => intro l _ _ _ x hx; omega
   | succ m ih =>
    intro l hnl hlt hlen x hx
    by_cases hm : m ∈ l
    ·by_cases e : x = m
     ·subst e; exact hm
     ·have := ih (l.erase m) (hnl.erase m) (fun y hy => by
       have h1 := hlt y (List.mem_of_mem_erase hy)
       have hne : y ≠ m := fun q => by subst q; exact (List.Nodup.not_mem_erase hnl) hy
       omega) (by rw [List.length_erase_of_mem hm]; omega) x (by omega)
      exact List.mem_of_mem_erase this
    ·exfalso
     have hb : ∀ (m : Nat) (l : List Nat), l.Nodup → (∀ x ∈ l, x < m) → l.length ≤ m := by
      intro m
      induction m with
      | zero =>
       intro l _ hl
       cases l with
       | nil => simp
       | cons x l => exact absurd (hl x (List.mem_cons_self ..)) (by omega)
      | succ m ih2 =>
       intro l hn hl
       by_cases hm : m ∈ l
       ·have h1 := ih2 (l.erase m) (hn.erase m) fun x hx => by
         have := hl x (List.mem_of_mem_erase hx)
         have hne : x ≠ m := fun e => by subst e; exact (List.Nodup.not_mem_erase hn) hx
         omega
        rw [List.length_erase_of_mem hm] at h1
        omega
       ·have := ih2 l hn fun x hx => by
         have := hl x hx
         have hne : x ≠ m := fun e => hm (e ▸ hx)
         omega
        omega
     have := hb m l hnl fun y hy => by
      have h1 := hlt y hy
      have hne : y ≠ m := fun q => hm (q ▸ hy)
      omega
     omega
  exact hall n p hn h3 h1 k hk'
end UK
set_option linter.all false
namespace UK
open Vbrgad
theorem sumR_mul (n c : Nat) (f : Nat → Nat) : c * sumR n f = sumR n fun k => c * f k := by
 induction n with
 | zero => simp [sumR_zero]
 | succ n ih => rw [sumR_succ, sumR_succ, Nat.mul_add, ih]
theorem repl_id {ws : Ws} {T c : Nat} (h : T ∉ ws.map (·.1)) : ws.map (fun p => if p.1 = T then (p.1, c) else p) = ws := by
 conv => rhs; rw [← List.map_id ws]
 refine List.map_congr_left fun p hp => ?_
 rw [if_neg (fun (e : p.1 = T) => h (e ▸ List.mem_map_of_mem (f := (·.1)) hp))]; rfl
theorem lsum_repl (f : Nat → Nat) (T c : Nat) : ∀ {ws : Ws}, (ws.map (·.1)).Nodup → T ∈ ws.map (·.1) →
  lsum (ws.map fun p => if p.1 = T then (p.1, val ws T + c) else p) (fun p => p.2 * f p.1) = lsum ws (fun p => p.2 * f p.1) + c * f T
 | [], _, h => by simp at h
 | p :: ws, hn, h => by
  have hn' := List.nodup_cons.mp (show (p.1 :: ws.map (·.1)).Nodup from hn)
  rw [List.map_cons, lsum_cons, lsum_cons, val_cons]
  by_cases e : p.1 = T
  ·have hT : T ∉ ws.map (·.1) := e ▸ hn'.1
   rw [repl_id hT, val_out hT, if_pos e]
   simp only [if_pos e]
   rw [e, Nat.add_zero, Nat.add_mul]; omega
  ·have hT : T ∈ ws.map (·.1) := by
    rcases List.mem_cons.mp (show T ∈ p.1 :: ws.map (·.1) from h) with q | q
    ·exact absurd q.symm e
    ·exact q
   simp only [if_neg e, Nat.zero_add]
   rw [lsum_repl f T c hn'.2 hT]; omega
theorem lsum_bump {n : Nat} {ws : Ws} (h : WsOk n ws) (f : Nat → Nat) (T c : Nat) : lsum (bump ws T c) (fun p => p.2 * f p.1) = lsum ws (fun p => p.2 * f p.1) + c * f T := by
 unfold bump put
 by_cases ha : (ws.any fun p => decide (p.1 = T)) = true
 ·rw [if_pos ha]
  exact lsum_repl f T c h.nd ((any_iff ws T).mp ha)
 ·rw [if_neg ha, lsum_append, lsum_cons, lsum_nil, val_out (fun z => ha ((any_iff ws T).mpr z))]
  simp
theorem lsum_growK {n t c : Nat} (ht : t < 2 ^ n) (hc : 0 < c) (f : Nat → Nat) : ∀ {ks : List Nat} {g : Ws}, WsOk n g → (∀ k ∈ ks, k < n) →
  lsum (growK ks t c g) (fun p => p.2 * f p.1) = lsum g (fun p => p.2 * f p.1) + lsum ks fun k => if has t k = true then 0 else c * f (t + 2 ^ k)
 | [], g, _, _ => by rw [lsum_nil]; rfl
 | k :: ks, g, h, hk => by
  show lsum (growK ks t c (grow1 t c g k)) _ = _
  rw [lsum_growK ht hc f (grow1_ok h ht hc (hk k (List.mem_cons_self ..))) fun j hj => hk j (List.mem_cons_of_mem _ hj), lsum_cons]
  have e : lsum (grow1 t c g k) (fun p => p.2 * f p.1) = lsum g (fun p => p.2 * f p.1) + if has t k = true then 0 else c * f (t + 2 ^ k) := by
   unfold grow1
   cases e : has t k with
   | true => simp
   | false =>
    rw [if_neg Bool.false_ne_true, if_neg Bool.false_ne_true, lsum_bump h]
  rw [e]; omega
theorem lsum_foldK {n : Nat} {ks : List Nat} (hk : ∀ k ∈ ks, k < n) (f : Nat → Nat) : ∀ {ws g : Ws}, (∀ p ∈ ws, p.1 < 2 ^ n) → (∀ p ∈ ws, 0 < p.2) → WsOk n g →
  lsum (ws.foldl (fun g p => growK ks p.1 p.2 g) g) (fun p => p.2 * f p.1) = lsum g (fun p => p.2 * f p.1) + lsum ws fun p => lsum ks fun k => if has p.1 k = true then 0 else p.2 * f (p.1 + 2 ^ k)
 | [], g, _, _, _ => by rw [lsum_nil]; rfl
 | p :: ws, g, h1, h2, h => by
  have hok := growK_ok (h1 p (List.mem_cons_self ..)) (h2 p (List.mem_cons_self ..)) h hk
  rw [List.foldl_cons, lsum_foldK hk f (ws := ws) (fun q hq => h1 q (List.mem_cons_of_mem _ hq)) (fun q hq => h2 q (List.mem_cons_of_mem _ hq)) hok,
   lsum_growK (h1 p (List.mem_cons_self ..)) (h2 p (List.mem_cons_self ..)) f h hk, lsum_cons]
  omega
theorem lsum_grow {n : Nat} {ws : Ws} {ks : List Nat} (h : WsOk n ws) (hk : ∀ k ∈ ks, k < n) (f : Nat → Nat) :
  lsum (grow ws ks) (fun p => p.2 * f p.1) = lsum ws fun p => lsum ks fun k => if has p.1 k = true then 0 else p.2 * f (p.1 + 2 ^ k) := by
 unfold grow
 rw [lsum_foldK hk f h.lt h.pos (wsOk_nil n)]
 show 0 + _ = _
 rw [Nat.zero_add]
theorem has_compl {n T j : Nat} (hT : T < 2 ^ n) (hj : j < n) : has (2 ^ n - 1 - T) j = !has T j := by
 rw [has_testBit, has_testBit, Nat.sub_sub, Nat.add_comm, Nat.testBit_two_pow_sub_succ hT]
 simp [hj]
def free (n k : Nat) (b : Table) (T : Nat) : Nat := if has T k = true then 0 else cnt n b (2 ^ n - 1 - T - 2 ^ k)
theorem free_step {n k T c : Nat} (hk : k < n) (hT : T < 2 ^ n) (r : List Bool) (b : Table) :
  (lsum (leftOf n r) fun j => if has T j = true then 0 else c * free n k b (T + 2 ^ j)) = c * free n k (r :: b) T := by
 unfold leftOf
 rw [lsum_filter]
 show sumR n _ = _
 unfold free
 by_cases h : has T k = true
 ·rw [if_pos h, Nat.mul_zero]
  refine (sumR_congr fun j _ => ?_).trans (sumR_const0 n)
  by_cases hj : has T j = true
  ·simp [hj]
  ·have hj' : has T j = false := by simpa using hj
   rw [has_add hj', h]; simp
 ·have h' : has T k = false := by simpa using h
  rw [if_neg h]
  show _ = c * sumR n _
  rw [sumR_mul]
  refine sumR_congr fun j hj => ?_
  have hfk : has (2 ^ n - 1 - T) k = true := by rw [has_compl hT hk, h']; rfl
  rw [has_sub j hfk, has_compl hT hj]
  cases hr : flagR r j with
  | false => simp
  | true =>
   cases hTj : has T j with
   | true => simp
   | false =>
    rw [has_add hTj, h']
    by_cases e : k = j
    ·subst e; simp
    ·have e' : ¬ j = k := fun q => e q.symm
     have e3 : 2 ^ n - 1 - (T + 2 ^ j) - 2 ^ k = 2 ^ n - 1 - T - 2 ^ k - 2 ^ j := by omega
     simp [e, e', e3]
theorem conv_step {n k : Nat} (hk : k < n) {ws : Ws} (h : WsOk n ws) (r : List Bool) (b : Table) : lsum (grow ws (leftOf n r)) (fun p => p.2 * free n k b p.1) = lsum ws (fun p => p.2 * free n k (r :: b) p.1) := by
 rw [lsum_grow h leftOf_lt]
 exact lsum_congr fun p hp => free_step hk (h.lt p hp) r b
theorem conv_fold {n k : Nat} (hk : k < n) : ∀ (a b : Table) {ws : Ws}, WsOk n ws → lsum ((a.map (leftOf n)).foldl grow ws) (fun p => p.2 * free n k b p.1) = lsum ws (fun p => p.2 * free n k (a ++ b) p.1)
 | [], b, ws, _ => rfl
 | r :: a, b, ws, h => by
  rw [List.map_cons, List.foldl_cons, conv_fold hk a b (grow_ok h leftOf_lt), conv_step hk h, List.cons_append]
theorem conv {n k : Nat} (hk : k < n) (a b : Table) : lsum (takes (a.map (leftOf n))) (fun p => p.2 * free n k b p.1) = cnt n (a ++ b) (2 ^ n - 1 - 2 ^ k) := by
 unfold takes
 rw [conv_fold hk a b (wsOk_one n), lsum_cons, lsum_nil]
 unfold free
 have e : has 0 k = false := by unfold has; simp
 simp [e]
def numOf (n : Nat) (ks : List Nat) (bef beh : Ws) (k : Nat) : Nat := lsum bef fun p => lsum ks fun j => if j = k ∧ has (2 ^ n - 1 - p.1) j = true then p.2 * val beh (2 ^ n - 1 - p.1 - 2 ^ j) else 0
theorem lsum_leftOf_single {n k : Nat} (hk : k < n) (r : List Bool) (f : Nat → Nat) : (lsum (leftOf n r) fun j => if j = k then f j else 0) = if flagR r k = true then f k else 0 := by
 unfold leftOf
 rw [lsum_filter]
 show sumR n _ = _
 rw [sumR_single hk]
 ·simp
 ·intro j hj hne; simp [hne]
theorem num_eq {n : Nat} {t : Table} {l k : Nat} (hl : l < t.length) (hk : k < n) :
  numOf n (leftOf n t[l]) (takes ((t.take l).map (leftOf n))) (takes (((t.drop (l + 1)).map (leftOf n)).reverse)) k = countWith n t l k := by
 rw [countWith_eq hl hk, flagAt_eq (List.getElem?_eq_getElem hl)]
 unfold numOf
 have hok : WsOk n (takes ((t.take l).map (leftOf n))) := takes_ok fun ks hks => by
  obtain ⟨r, _, rfl⟩ := List.mem_map.mp hks
  exact leftOf_lt
 have e1 : ∀ p ∈ takes ((t.take l).map (leftOf n)), (lsum (leftOf n t[l]) fun j => if j = k ∧ has (2 ^ n - 1 - p.1) j = true then p.2 * val (takes (((t.drop (l + 1)).map (leftOf n)).reverse)) (2 ^ n - 1 - p.1 - 2 ^ j) else 0)
   = if flagR t[l] k = true then p.2 * free n k (t.drop (l + 1)) p.1 else 0 := by
  intro p hp
  have e2 : ∀ j ∈ leftOf n t[l], (if j = k ∧ has (2 ^ n - 1 - p.1) j = true then p.2 * val (takes (((t.drop (l + 1)).map (leftOf n)).reverse)) (2 ^ n - 1 - p.1 - 2 ^ j) else 0)
    = if j = k then p.2 * free n k (t.drop (l + 1)) p.1 else 0 := by
   intro j _
   by_cases e : j = k
   ·subst e
    rw [takes_rev, has_compl (hok.lt p hp) hk]
    unfold free
    cases has p.1 j <;> simp
   ·simp [e]
  rw [lsum_congr e2]
  exact lsum_leftOf_single hk t[l] (fun _ => p.2 * free n k (t.drop (l + 1)) p.1)
 rw [lsum_congr e1]
 cases flagR t[l] k with
 | false => exact lsum_zero fun _ _ => rfl
 | true =>
  have e3 : (lsum (takes ((t.take l).map (leftOf n))) fun p => if true = true then p.2 * free n k (t.drop (l + 1)) p.1 else 0) = lsum (takes ((t.take l).map (leftOf n))) fun p => p.2 * free n k (t.drop (l + 1)) p.1 := lsum_congr fun _ _ => if_pos rfl
  rw [e3, conv hk, if_pos rfl]
  unfold rest
  rw [List.eraseIdx_eq_take_drop_succ]
def addK (n : Nat) (beh : Ws) (t c : Nat) (ns : List Nat) (k : Nat) : List Nat := if has (2 ^ n - 1 - t) k = true then ns.set k (ns.getD k 0 + c * val beh (2 ^ n - 1 - t - 2 ^ k)) else ns
def numsOf (n : Nat) (ks : List Nat) (bef beh : Ws) : List Nat := bef.foldl (fun ns p => ks.foldl (addK n beh p.1 p.2) ns) (List.replicate n 0)
theorem addK_length (n : Nat) (beh : Ws) (t c : Nat) (ns : List Nat) (k : Nat) : (addK n beh t c ns k).length = ns.length := by unfold addK; split <;> simp
theorem addKs_length (n : Nat) (beh : Ws) (t c : Nat) : ∀ (ks ns : List Nat), (ks.foldl (addK n beh t c) ns).length = ns.length
 | [], ns => rfl
 | k :: ks, ns => by rw [List.foldl_cons, addKs_length n beh t c ks, addK_length]
theorem addAll_length (n : Nat) (beh : Ws) (ks : List Nat) : ∀ (bef : Ws) (ns : List Nat), (bef.foldl (fun ns p => ks.foldl (addK n beh p.1 p.2) ns) ns).length = ns.length
 | [], ns => rfl
 | p :: bef, ns => by rw [List.foldl_cons, addAll_length n beh ks bef, addKs_length]
theorem addK_get {n : Nat} {beh : Ws} {t c : Nat} {ns : List Nat} {j : Nat} (hj : j < ns.length) (k : Nat) : (addK n beh t c ns j).getD k 0 = ns.getD k 0 + if j = k ∧ has (2 ^ n - 1 - t) j = true then c * val beh (2 ^ n - 1 - t - 2 ^ j) else 0 := by
 unfold addK
 by_cases h : has (2 ^ n - 1 - t) j = true
 ·rw [if_pos h, List.getD_eq_getElem?_getD, List.getElem?_set]
  by_cases e : j = k
  ·subst e; simp [hj, h]
  ·simp [e, List.getD_eq_getElem?_getD]
 ·rw [if_neg h]; simp [h]
theorem addKs_get {n : Nat} {beh : Ws} {t c : Nat} (k : Nat) : ∀ {ks ns : List Nat}, (∀ j ∈ ks, j < ns.length) → (ks.foldl (addK n beh t c) ns).getD k 0 = ns.getD k 0 + lsum ks fun j => if j = k ∧ has (2 ^ n - 1 - t) j = true then c * val beh (2 ^ n - 1 - t - 2 ^ j) else 0
 | [], ns, _ => by rw [lsum_nil]; rfl
 | j :: ks, ns, h => by
  rw [List.foldl_cons, addKs_get k (ks := ks) (fun i hi => by rw [addK_length]; exact h i (List.mem_cons_of_mem _ hi)), addK_get (h j (List.mem_cons_self ..)), lsum_cons]
  omega
theorem addAll_get {n : Nat} {beh : Ws} {ks : List Nat} (k : Nat) : ∀ {bef : Ws} {ns : List Nat}, (∀ j ∈ ks, j < ns.length) →
  (bef.foldl (fun ns p => ks.foldl (addK n beh p.1 p.2) ns) ns).getD k 0 = ns.getD k 0 + lsum bef fun p => lsum ks fun j => if j = k ∧ has (2 ^ n - 1 - p.1) j = true then p.2 * val beh (2 ^ n - 1 - p.1 - 2 ^ j) else 0
 | [], ns, _ => by rw [lsum_nil]; rfl
 | p :: bef, ns, h => by
  rw [List.foldl_cons, addAll_get k (bef := bef) (fun j hj => by rw [addKs_length]; exact h j hj), addKs_get k h, lsum_cons]
  omega
theorem numsOf_eq {n : Nat} {ks : List Nat} {bef beh : Ws} (h : ∀ j ∈ ks, j < n) : numsOf n ks bef beh = (List.range n).map (numOf n ks bef beh) := by
 apply List.ext_getElem?
 intro k
 have hl : (numsOf n ks bef beh).length = n := by unfold numsOf; rw [addAll_length]; simp
 by_cases hk : k < n
 ·have h1 := addAll_get (n := n) (beh := beh) (ks := ks) k (bef := bef) (ns := List.replicate n 0) (fun j hj => by simpa using h j hj)
  have h2 : (numsOf n ks bef beh).getD k 0 = numOf n ks bef beh k := by
   unfold numsOf numOf
   rw [h1]
   have : (List.replicate n 0).getD k 0 = 0 := by rw [List.getD_eq_getElem?_getD, List.getElem?_replicate]; split <;> rfl
   rw [this]; omega
  rw [List.getElem?_map, List.getElem?_range hk, List.getElem?_eq_getElem (by omega)]
  rw [List.getD_eq_getElem?_getD, List.getElem?_eq_getElem (by omega)] at h2
  show some _ = some _
  exact congrArg some h2
 ·rw [List.getElem?_eq_none_iff.mpr (by omega), List.getElem?_eq_none_iff.mpr (by simp; omega)]
theorem cnt_le (n : Nat) : ∀ (a : Table) (m : Nat), cnt n a m ≤ n ^ a.length
 | [], m => by
  show (if m = 0 then 1 else 0) ≤ 1
  split <;> omega
 | r :: a, m => by
  rw [List.length_cons, Nat.pow_succ, Nat.mul_comm]
  refine sumR_le_const fun k _ => ?_
  split
  ·exact cnt_le n a _
  ·exact Nat.zero_le _
theorem pow_small {n l : Nat} (hn : n ≤ 10) (hl : l ≤ 10) : n ^ l ≤ 10000000000 :=
 Nat.le_trans (Nat.pow_le_pow_left hn l) (Nat.le_trans (Nat.pow_le_pow_right (n := 10) (by omega) hl) (by decide))
theorem takes_small {n : Nat} {a : Table} (hn : n ≤ 10) (ha : a.length ≤ 10) : ∀ p ∈ takes (a.map (leftOf n)), p.2 ≤ 10000000000 := fun p hp => by
 have hok : WsOk n (takes (a.map (leftOf n))) := takes_ok fun ks hks => by
  obtain ⟨r, _, rfl⟩ := List.mem_map.mp hks
  exact leftOf_lt
 rw [← hok.mem hp, takes_val]
 exact Nat.le_trans (cnt_le n a _) (pow_small hn ha)
theorem count_takes (n : Nat) (t : Table) : val (takes (t.map (leftOf n))) (2 ^ n - 1) = count n t := by rw [takes_val, count_eq]
end UK
set_option linter.all false
namespace UK
open Vbrgad
structure FInv (n : Nat) (t : Table) (i : Nat) (b : Table) (F : Nat) : Prop where
 len : b.length = n
 drop : b.drop i = t.drop i
 lt : F < 2 ^ n
 ways : ∀ (c : Table) (k : Nat), k < n → cnt n (b.take i ++ c) (2 ^ n - 1 - 2 ^ k) = if has F k = true then cnt n c (F - 2 ^ k) else 0
theorem FInv.start {n : Nat} {t : Table} (h : t.length = n) : FInv n t 0 t (2 ^ n - 1) :=
 ⟨h, rfl, by have := Nat.two_pow_pos n; omega, fun c k hk => by rw [has_full hk, if_pos rfl]; rfl⟩
theorem FInv.row {n : Nat} {t b : Table} {i F : Nat} (h : FInv n t i b F) (hi : i < n) : ∃ r, b[i]? = some r ∧ t[i]? = some r := by
 have hb : i < b.length := by rw [h.len]; exact hi
 refine ⟨b[i], List.getElem?_eq_getElem hb, ?_⟩
 have := congrArg (fun l => l[0]?) h.drop
 simp only [List.getElem?_drop, Nat.add_zero] at this
 rw [← this, List.getElem?_eq_getElem hb]
theorem FInv.rest_ {n : Nat} {t b : Table} {i F k : Nat} (h : FInv n t i b F) (hk : k < n) : rest n b i k = if has F k = true then cnt n (t.drop (i + 1)) (F - 2 ^ k) else 0 := by
 unfold rest
 rw [List.eraseIdx_eq_take_drop_succ, h.ways _ k hk]
 have e : b.drop (i + 1) = t.drop (i + 1) := by
  have := congrArg (List.drop 1) h.drop
  simpa [List.drop_drop] using this
 rw [e]
def mayK (n : Nat) (t : Table) (i F k : Nat) : Bool := has F k && decide (0 < cnt n (t.drop (i + 1)) (F - 2 ^ k))
theorem FInv.poss {n : Nat} {t b : Table} {i F k : Nat} {r : List Bool} (h : FInv n t i b F) (hi : i < n) (hr : t[i]? = some r) (hk : k < n) : possible n b i k = (flagR r k && mayK n t i F k) := by
 obtain ⟨r', h1, h2⟩ := h.row hi
 have e : r' = r := Option.some.inj (h2.symm.trans hr)
 subst e
 have hp := possible_iff (n := n) (a := b) (l := i) (k := k) (by rw [h.len]; exact hi) hk
 rw [flagAt_eq h1, h.rest_ hk] at hp
 unfold mayK
 rw [Bool.eq_iff_iff, hp, Bool.and_eq_true, Bool.and_eq_true, decide_eq_true_iff]
 cases has F k <;> simp
theorem mapAt_take {α : Type} (g : α → α) : ∀ (i : Nat) (a : List α) (r : α), a[i]? = some r → (mapAt g i a).take (i + 1) = a.take i ++ [g r]
 | _, [], r, h => by simp at h
 | 0, x :: a, r, h => by
  have e : x = r := by simpa using h
  subst e; simp [mapAt]
 | i + 1, x :: a, r, h => by
  have := mapAt_take g i a r (by simpa using h)
  simp [mapAt, this]
theorem mapAt_drop {α : Type} (g : α → α) : ∀ (i : Nat) (a : List α), (mapAt g i a).drop (i + 1) = a.drop (i + 1)
 | i, [] => by cases i <;> rfl
 | 0, x :: a => rfl
 | i + 1, x :: a => by simp [mapAt, mapAt_drop g i a]
theorem cnt_one {n k : Nat} (hk : k < n) (r : List Bool) (hr : flagR r k = true) (c : Table) (m : Nat) : cnt n (keepRow (fun j => j == k) r :: c) m = if has m k = true then cnt n c (m - 2 ^ k) else 0 := by
 show sumR n _ = _
 rw [sumR_single hk]
 ·rw [keepRow_flag, hr]; simp
 ·intro j hj hne
  rw [keepRow_flag]
  have : (j == k) = false := beq_eq_false_iff_ne.mpr hne
  simp [this]
theorem FInv.step {n : Nat} {t b : Table} {i F k : Nat} {r : List Bool} (h : FInv n t i b F) (hi : i < n) (hr : t[i]? = some r) (hk : k < n) (hf : flagR r k = true) (hF : has F k = true) : FInv n t (i + 1) (narrowed (fun j => j == k) i b) (F - 2 ^ k) := by
 obtain ⟨r', h1, h2⟩ := h.row hi
 have e : r' = r := Option.some.inj (h2.symm.trans hr)
 subst e
 refine ⟨by rw [narrowed_length]; exact h.len, ?_, Nat.lt_of_le_of_lt (Nat.sub_le _ _) h.lt, fun c j hj => ?_⟩
 ·rw [show narrowed (fun j => j == k) i b = mapAt (keepRow fun j => j == k) i b from rfl, mapAt_drop]
  have := congrArg (List.drop 1) h.drop
  simpa [List.drop_drop] using this
 ·rw [show narrowed (fun j => j == k) i b = mapAt (keepRow fun j => j == k) i b from rfl, mapAt_take _ i b r' h1, List.append_assoc, h.ways _ j hj]
  show (if has F j = true then cnt n (keepRow (fun j => j == k) r' :: c) (F - 2 ^ j) else 0) = _
  rw [cnt_one hk r' hf, has_sub j hF]
  by_cases hj' : has F j = true
  ·rw [if_pos hj', has_sub k hj', hF, hj']
   by_cases e : j = k
   ·subst e; simp
   ·have e' : ¬ k = j := fun q => e q.symm
    have e3 : F - 2 ^ j - 2 ^ k = F - 2 ^ k - 2 ^ j := by omega
    simp [e, e', e3]
  ·rw [if_neg hj']; simp [hj']
theorem find_some {p : Nat → Bool} {n k : Nat} (hk : k < n) (hp : p k = true) : ∃ k0, (List.range n).find? p = some k0 ∧ k0 < n ∧ p k0 = true ∧ ∀ j, j < n → p j = true → k0 ≤ j := by
 cases h : (List.range n).find? p with
 | none =>
  have := List.find?_eq_none.mp h k (List.mem_range.mpr hk)
  exact absurd hp this
 | some k0 =>
  have hm := List.mem_range.mp (List.mem_of_find?_eq_some h)
  refine ⟨k0, rfl, hm, List.find?_some h, fun j hj hpj => ?_⟩
  obtain ⟨_, as, bs, e, hall⟩ := List.find?_eq_some_iff_append.mp h
  by_cases hlt : k0 ≤ j
  ·exact hlt
  ·exfalso
   have hja : j ∈ as := by
    have hjr : j ∈ List.range n := List.mem_range.mpr hj
    have hpw : (as ++ k0 :: bs).Pairwise (· < ·) := by rw [← e]; exact List.pairwise_lt_range
    rw [e] at hjr
    rcases List.mem_append.mp hjr with q | q
    ·exact q
    ·rcases List.mem_cons.mp q with q | q
     ·omega
     ·have := (List.pairwise_append.mp hpw).2.1
      have := (List.pairwise_cons.mp this).1 j q
      omega
   have := hall j hja
   rw [hpj] at this; cases this
theorem FInv.next {n : Nat} {t b : Table} {i F : Nat} {r : List Bool} (h : FInv n t i b F) (hi : i < n) (hr : t[i]? = some r) (hc : 0 < count n b) :
  ∃ k0, k0 < n ∧ flagR r k0 = true ∧ has F k0 = true ∧ mayK n t i F k0 = true ∧ (∀ j, j < n → flagR r j = true → mayK n t i F j = true → k0 ≤ j) ∧ FInv n t (i + 1) (narrowed (fun j => j == k0) i b) (F - 2 ^ k0) ∧
   0 < count n (narrowed (fun j => j == k0) i b) ∧ ∀ f, firstFrom n (f + 1) i b = k0 :: firstFrom n f (i + 1) (narrowed (fun j => j == k0) i b) := by
 have hl : i < b.length := by rw [h.len]; exact hi
 rw [count_eq_sum hl] at hc
 obtain ⟨k, hk, hp⟩ := sumR_pos.mp hc
 have hpk : possible n b i k = true := by unfold possible; rw [decide_eq_true_iff]; exact hp
 obtain ⟨k0, hf, hk0, hp0, hmin⟩ := find_some (p := possible n b i) hk hpk
 have hpp := hp0
 rw [h.poss hi hr hk0, Bool.and_eq_true] at hp0
 have hF : has F k0 = true := by
  have := hp0.2
  unfold mayK at this
  rw [Bool.and_eq_true] at this
  exact this.1
 refine ⟨k0, hk0, hp0.1, hF, hp0.2, fun j hj h1 h2 => hmin j hj (by rw [h.poss hi hr hj, h1, h2]; rfl), h.step hi hr hk0 hp0.1 hF, (possible_narrow n b i k0).mp hpp, fun f => ?_⟩
 show (match (List.range n).find? (possible n b i) with
  | none => []
  | some k => k :: firstFrom n f (i + 1) (narrowed (fun j => j == k) i b)) = _
 rw [hf]
end UK
set_option linter.all false
namespace UK
open Vbrgad
def card (n : Nat) (p : Nat → Bool) : Nat := sumR n fun i => if p i = true then 1 else 0
theorem card_mono {n : Nat} {p q : Nat → Bool} (h : ∀ i, i < n → p i = true → q i = true) : card n p ≤ card n q :=
 sumR_le fun i hi => by
  by_cases e : p i = true
  ·rw [if_pos e, if_pos (h i hi e)]; exact Nat.le_refl _
  ·rw [if_neg e]; exact Nat.zero_le _
theorem card_congr {n : Nat} {p q : Nat → Bool} (h : ∀ i, i < n → p i = q i) : card n p = card n q := sumR_congr fun i hi => by rw [h i hi]
theorem card_union (n : Nat) (p q : Nat → Bool) : card n (fun i => p i || q i) + card n (fun i => p i && q i) = card n p + card n q := by
 unfold card
 rw [← sumR_add, ← sumR_add]
 refine sumR_congr fun i _ => ?_
 show (if (p i || q i) = true then 1 else 0) + (if (p i && q i) = true then 1 else 0) = _
 cases p i <;> cases q i <;> rfl
theorem card_minus {n x : Nat} {p : Nat → Bool} (hx : x < n) (hp : p x = true) : card n p = card n (fun i => p i && decide (i ≠ x)) + 1 := by
 have h := card_union n (fun i => p i && decide (i ≠ x)) (fun i => decide (i = x))
 have e1 : card n (fun i => (p i && decide (i ≠ x)) || decide (i = x)) = card n p := card_congr fun i _ => by
  by_cases e : i = x
  ·subst e; simp [hp]
  ·simp [e]
 have e2 : card n (fun i => (p i && decide (i ≠ x)) && decide (i = x)) = 0 := by
  refine (sumR_congr fun i _ => ?_).trans (sumR_const0 n)
  by_cases e : i = x
  ·simp [e]
  ·simp [e]
 have e3 : card n (fun i => decide (i = x)) = 1 := by
  unfold card
  rw [sumR_single hx]
  ·simp
  ·intro j _ hne; simp [hne]
 rw [e1, e2, e3] at h
 omega
theorem card_pos {n : Nat} {p : Nat → Bool} : 0 < card n p ↔ ∃ i, i < n ∧ p i = true := by
 unfold card
 rw [sumR_pos]
 constructor
 ·rintro ⟨i, hi, h⟩
  by_cases e : p i = true
  ·exact ⟨i, hi, e⟩
  ·rw [if_neg e] at h; omega
 ·rintro ⟨i, hi, h⟩
  exact ⟨i, hi, by rw [if_pos h]; omega⟩
theorem card_filter (n : Nat) (p : Nat → Bool) : card n p = ((List.range n).filter p).length := by
 unfold card sumR
 induction n with
 | zero => rfl
 | succ n ih =>
  rw [List.range_succ, List.map_append, List.sum_append, ih, List.filter_append, List.length_append]
  congr 1
  cases h : p n <;> simp [h]
def nb (n : Nat) (adj : Nat → Nat → Bool) (A : Nat → Bool) (j : Nat) : Bool := (List.range n).any fun i => A i && adj i j
theorem nb_iff {n : Nat} {adj : Nat → Nat → Bool} {A : Nat → Bool} {j : Nat} : nb n adj A j = true ↔ ∃ i, i < n ∧ A i = true ∧ adj i j = true := by
 unfold nb
 rw [List.any_eq_true]
 constructor
 ·rintro ⟨i, hi, h⟩
  rw [Bool.and_eq_true] at h
  exact ⟨i, List.mem_range.mp hi, h.1, h.2⟩
 ·rintro ⟨i, hi, h1, h2⟩
  exact ⟨i, List.mem_range.mpr hi, by rw [h1, h2]; rfl⟩
def Hall (n : Nat) (adj : Nat → Nat → Bool) : Prop := ∀ A : Nat → Bool, card n A ≤ card n (nb n adj A)
def cut (adj : Nat → Nat → Bool) (x c : Nat) (i j : Nat) : Bool := adj i j && decide (¬ (i = x ∧ j = c))
theorem cut_le {adj : Nat → Nat → Bool} {x c i j : Nat} (h : cut adj x c i j = true) : adj i j = true := by
 unfold cut at h
 rw [Bool.and_eq_true] at h
 exact h.1
theorem cut_of {adj : Nat → Nat → Bool} {x c i j : Nat} (h : adj i j = true) (hn : ¬ (i = x ∧ j = c)) : cut adj x c i j = true := by
 unfold cut
 rw [h, decide_eq_true hn]; rfl
theorem viol {n x c : Nat} {adj : Nat → Nat → Bool} (h : Hall n adj) {A : Nat → Bool} (hv : card n (nb n (cut adj x c) A) < card n A) : A x = true := by
 cases e : A x with
 | true => rfl
 | false =>
  exfalso
  have h1 := h A
  have : card n (nb n adj A) ≤ card n (nb n (cut adj x c) A) := card_mono fun j _ hj => by
   obtain ⟨i, hi, hA, ha⟩ := nb_iff.mp hj
   exact nb_iff.mpr ⟨i, hi, hA, cut_of ha fun q => by rw [q.1, e] at hA; cases hA⟩
  omega
theorem split {n x c d : Nat} {adj : Nat → Nat → Bool} (h : Hall n adj) (hx : x < n) (hcd : c ≠ d) (hc : adj x c = true) (hd : adj x d = true) : Hall n (cut adj x c) ∨ Hall n (cut adj x d) := by
 by_cases h1 : Hall n (cut adj x c)
 ·exact .inl h1
 ·refine .inr fun A2 => ?_
  by_cases h2 : card n A2 ≤ card n (nb n (cut adj x d) A2)
  ·exact h2
  ·exfalso
   obtain ⟨A1, hv1⟩ := Classical.not_forall.mp h1
   have hv1 : card n (nb n (cut adj x c) A1) < card n A1 := by omega
   have hv2 : card n (nb n (cut adj x d) A2) < card n A2 := by omega
   have hx1 := viol h hv1
   have hx2 := viol h hv2
   have hU := h fun i => A1 i || A2 i
   have hI := h fun i => (A1 i && A2 i) && decide (i ≠ x)
   have e1 := card_union n A1 A2
   have e2 := card_minus (p := fun i => A1 i && A2 i) hx (by simp [hx1, hx2])
   have e3 := card_union n (nb n (cut adj x c) A1) (nb n (cut adj x d) A2)
   have l1 : card n (nb n adj fun i => A1 i || A2 i) ≤ card n (fun j => nb n (cut adj x c) A1 j || nb n (cut adj x d) A2 j) := card_mono fun j _ hj => by
    obtain ⟨i, hi, hA, ha⟩ := nb_iff.mp hj
    rw [Bool.or_eq_true] at hA ⊢
    by_cases q1 : i = x
    ·subst q1
     by_cases q2 : j = c
     ·subst q2
      exact .inr (nb_iff.mpr ⟨i, hi, hx2, cut_of ha fun q => hcd q.2⟩)
     ·exact .inl (nb_iff.mpr ⟨i, hi, hx1, cut_of ha fun q => q2 q.2⟩)
    ·rcases hA with hA | hA
     ·exact .inl (nb_iff.mpr ⟨i, hi, hA, cut_of ha fun q => q1 q.1⟩)
     ·exact .inr (nb_iff.mpr ⟨i, hi, hA, cut_of ha fun q => q1 q.1⟩)
   have l2 : card n (nb n adj fun i => (A1 i && A2 i) && decide (i ≠ x)) ≤ card n (fun j => nb n (cut adj x c) A1 j && nb n (cut adj x d) A2 j) := card_mono fun j _ hj => by
    obtain ⟨i, hi, hA, ha⟩ := nb_iff.mp hj
    simp only [Bool.and_eq_true, decide_eq_true_eq] at hA
    rw [Bool.and_eq_true]
    exact ⟨nb_iff.mpr ⟨i, hi, hA.1.1, cut_of ha fun q => hA.2 q.1⟩, nb_iff.mpr ⟨i, hi, hA.1.2, cut_of ha fun q => hA.2 q.1⟩⟩
   omega
def edges (n : Nat) (adj : Nat → Nat → Bool) : Nat := sumR n fun i => card n (adj i)
theorem sumR_lt {n x : Nat} {f g : Nat → Nat} (hx : x < n) (h : ∀ i, i < n → f i ≤ g i) (hlt : f x < g x) : sumR n f < sumR n g := by
 induction n with
 | zero => omega
 | succ n ih =>
  rw [sumR_succ, sumR_succ]
  by_cases e : x = n
  ·subst e
   have := sumR_le (n := x) (f := f) (g := g) fun i hi => h i (by omega)
   omega
  ·have := ih (by omega) fun i hi => h i (by omega)
   have := h n (by omega)
   omega
theorem edges_cut {n x c : Nat} {adj : Nat → Nat → Bool} (hx : x < n) (hc : c < n) (h : adj x c = true) : edges n (cut adj x c) < edges n adj := by
 refine sumR_lt hx (fun i _ => card_mono fun j _ hj => cut_le hj) ?_
 have e := card_minus (p := adj x) hc h
 have : card n (cut adj x c x) = card n (fun j => adj x j && decide (j ≠ c)) := card_congr fun j _ => by
  unfold cut
  by_cases q : j = c <;> simp [q]
 omega
theorem matching : ∀ (e n : Nat) (adj : Nat → Nat → Bool), edges n adj = e → Hall n adj → ∃ f : Nat → Nat, (∀ i, i < n → f i < n ∧ adj i (f i) = true) ∧ ∀ i j, i < n → j < n → f i = f j → i = j := by
 intro e
 induction e using Nat.strongRecOn with
 | ind e ih =>
  intro n adj he h
  by_cases hd : ∃ x c d, x < n ∧ c < n ∧ d < n ∧ c ≠ d ∧ adj x c = true ∧ adj x d = true
  ·obtain ⟨x, c, d, hx, hc, hdn, hcd, h1, h2⟩ := hd
   rcases split h hx hcd h1 h2 with g | g
   ·obtain ⟨f, f1, f2⟩ := ih _ (by rw [← he]; exact edges_cut hx hc h1) n _ rfl g
    exact ⟨f, fun i hi => ⟨(f1 i hi).1, cut_le (f1 i hi).2⟩, f2⟩
   ·obtain ⟨f, f1, f2⟩ := ih _ (by rw [← he]; exact edges_cut hx hdn h2) n _ rfl g
    exact ⟨f, fun i hi => ⟨(f1 i hi).1, cut_le (f1 i hi).2⟩, f2⟩
  ·have huniq : ∀ x c d, x < n → c < n → d < n → adj x c = true → adj x d = true → c = d := fun x c d hx hc hdn h1 h2 => by
    by_cases q : c = d
    ·exact q
    ·exact absurd ⟨x, c, d, hx, hc, hdn, q, h1, h2⟩ hd
   have hex : ∀ x, x < n → ∃ c, c < n ∧ adj x c = true := fun x hx => by
    have h1 := h fun i => decide (i = x)
    have h2 : 0 < card n fun i => decide (i = x) := card_pos.mpr ⟨x, hx, by simp⟩
    obtain ⟨c, hc, hj⟩ := card_pos.mp (Nat.lt_of_lt_of_le h2 h1)
    obtain ⟨i, _, hi, ha⟩ := nb_iff.mp hj
    have : i = x := of_decide_eq_true hi
    subst this
    exact ⟨c, hc, ha⟩
   refine ⟨fun x => ((List.range n).find? (adj x)).getD 0, ?_⟩
   have hf : ∀ x, x < n → ((List.range n).find? (adj x)).getD 0 < n ∧ adj x (((List.range n).find? (adj x)).getD 0) = true := fun x hx => by
    obtain ⟨c, hc, ha⟩ := hex x hx
    obtain ⟨k0, e0, h0, h1, _⟩ := find_some (p := adj x) hc ha
    rw [e0]; exact ⟨h0, h1⟩
   refine ⟨hf, fun i j hi hj hij => ?_⟩
   by_cases q : i = j
   ·exact q
   ·exfalso
    have h1 := h fun x => decide (x = i) || decide (x = j)
    have c2 : card n (fun x => decide (x = i) || decide (x = j)) = 2 := by
     have e1 := card_minus (p := fun x => decide (x = i) || decide (x = j)) hi (by simp)
     have e2 := card_minus (n := n) (x := j) (p := fun x => (decide (x = i) || decide (x = j)) && decide (x ≠ i)) hj (by simp [Ne.symm q])
     have e3 : card n (fun x => ((decide (x = i) || decide (x = j)) && decide (x ≠ i)) && decide (x ≠ j)) = 0 := by
      refine (sumR_congr fun x _ => ?_).trans (sumR_const0 n)
      by_cases q1 : x = i <;> by_cases q2 : x = j <;> simp [q1, q2]
     omega
    have c1 : card n (nb n adj fun x => decide (x = i) || decide (x = j)) ≤ 1 := by
     have e3 : card n (fun k => decide (k = ((List.range n).find? (adj i)).getD 0)) = 1 := by
      unfold card
      rw [sumR_single (hf i hi).1]
      ·simp
      ·intro k _ hne; simp [hne]
     rw [← e3]
     refine card_mono fun k hk hkn => ?_
     obtain ⟨x, hx, hA, ha⟩ := nb_iff.mp hkn
     rw [decide_eq_true_iff]
     rw [Bool.or_eq_true, decide_eq_true_iff, decide_eq_true_iff] at hA
     rcases hA with rfl | rfl
     ·exact huniq x k _ hx hk (hf x hx).1 ha (hf x hx).2
     ·have hij' : ((List.range n).find? (adj i)).getD 0 = ((List.range n).find? (adj x)).getD 0 := hij
      rw [hij']
      exact huniq x k _ hx hk (hf x hx).1 ha (hf x hx).2
    omega
def adjW (t : Table) (l k : Nat) (i j : Nat) : Bool := if i = l then decide (j = k) else flagAt t i j && decide (j ≠ k)
theorem not_possible {t : Table} {l k : Nat} (hl : l < t.length) (hk : k < t.length) (hf : flagAt t l k = true) (hp : possible t.length t l k = false) :
  ∃ A : Nat → Bool, A l = false ∧ card t.length (nb t.length (fun i j => flagAt t i j && decide (j ≠ k)) A) < card t.length A := by
 have hnh : ¬ Hall t.length (adjW t l k) := fun h => by
  obtain ⟨f, f1, f2⟩ := matching _ t.length _ rfl h
  have hfl : f l = k := by
   have := (f1 l hl).2
   unfold adjW at this
   rw [if_pos rfl] at this
   exact of_decide_eq_true this
  have : possible t.length t l k = true := by
   rw [possible_narrow, count_pos_iff (narrowed_length _ _ _)]
   refine ⟨(List.range t.length).map f, by simp, ?_, ?_, fun i j e => ?_⟩
   ·rw [List.nodup_iff_pairwise_ne, List.pairwise_map]
    refine List.Pairwise.imp_of_mem (fun {a b} ha hb hab q => ?_) List.pairwise_lt_range
    have := f2 a b (List.mem_range.mp ha) (List.mem_range.mp hb) q
    omega
   ·intro j hj
    obtain ⟨i, hi, rfl⟩ := List.mem_map.mp hj
    exact (f1 i (List.mem_range.mp hi)).1
   ·rw [List.getElem?_map] at e
    cases q : (List.range t.length)[i]? with
    | none => rw [q] at e; cases e
    | some i' =>
     rw [q] at e
     have hi' : i < t.length := by have := (List.getElem?_eq_some_iff.mp q).1; simpa using this
     rw [List.getElem?_range hi'] at q
     cases q
     have ej : f i = j := Option.some.inj e
     have ha := (f1 i hi').2
     rw [ej] at ha
     rw [narrowed_flag]
     unfold adjW at ha
     by_cases q : i = l
     ·subst q
      rw [if_pos rfl] at ha
      have := of_decide_eq_true ha
      subst this
      rw [hf]; simp
     ·rw [if_neg q, Bool.and_eq_true] at ha
      rw [ha.1]; simp [q]
  rw [hp] at this; cases this
 obtain ⟨A, hA⟩ := Classical.not_forall.mp hnh
 refine ⟨fun i => A i && decide (i ≠ l), by simp, ?_⟩
 have base : ∀ j, nb t.length (fun i j => flagAt t i j && decide (j ≠ k)) (fun i => A i && decide (i ≠ l)) j = true → nb t.length (adjW t l k) A j = true ∧ j ≠ k := fun j hj => by
  obtain ⟨i, hi, h1, h2⟩ := nb_iff.mp hj
  simp only [Bool.and_eq_true, decide_eq_true_eq] at h1 h2
  exact ⟨nb_iff.mpr ⟨i, hi, h1.1, by unfold adjW; rw [if_neg h1.2, h2.1, decide_eq_true h2.2]; rfl⟩, h2.2⟩
 cases e : A l with
 | false =>
  have e1 : card t.length (fun i => A i && decide (i ≠ l)) = card t.length A := card_congr fun i _ => by
   by_cases q : i = l
   ·subst q; simp [e]
   ·simp [q]
  have := card_mono (n := t.length) fun j _ hj => (base j hj).1
  omega
 | true =>
  have e1 := card_minus hl e
  have hkn : nb t.length (adjW t l k) A k = true := nb_iff.mpr ⟨l, hl, e, by unfold adjW; simp⟩
  have e2 := card_minus hk hkn
  have := card_mono (n := t.length) (p := nb t.length (fun i j => flagAt t i j && decide (j ≠ k)) (fun i => A i && decide (i ≠ l))) (q := fun j => nb t.length (adjW t l k) A j && decide (j ≠ k)) fun j _ hj => by
   rw [(base j hj).1, decide_eq_true (base j hj).2]; rfl
  omega
end UK
set_option linter.all false
namespace UK
open Vbrgad
theorem members_card (n m : Nat) : (members n m).length = card n (has m) := by rw [card_filter]; rfl
theorem card_succ (n : Nat) (p : Nat → Bool) : card (n + 1) p = card n p + if p n = true then 1 else 0 := sumR_succ _ _
theorem has_small {m i j : Nat} (h : m < 2 ^ i) (hj : i ≤ j) : has m j = false := by
 cases e : has m j with
 | true => exact absurd (has_lt h e) (by omega)
 | false => rfl
theorem has_top {m i : Nat} (h1 : 2 ^ i ≤ m) (h2 : m < 2 ^ (i + 1)) : has m i = true := by
 rw [has_def]
 have hp := Nat.two_pow_pos i
 have e : m / 2 ^ i = 1 := by
  rw [Nat.pow_succ] at h2
  exact Nat.div_eq_of_lt_le (by omega) (by omega)
 rw [e]
def szs : Nat → List Nat
 | 0 => [0]
 | i + 1 => szs i ++ (szs i).map (· + 1)
theorem szs_length : ∀ i, (szs i).length = 2 ^ i
 | 0 => rfl
 | i + 1 => by rw [szs, List.length_append, List.length_map, szs_length i, Nat.pow_succ]; omega
theorem szs_get : ∀ (i m : Nat), m < 2 ^ i → (szs i)[m]? = some (card i (has m))
 | 0, m, h => by
  have e : m = 0 := by simpa using h
  subst e; rfl
 | i + 1, m, h => by
  rw [szs, card_succ]
  by_cases hm : m < 2 ^ i
  ·rw [List.getElem?_append_left (by rw [szs_length]; exact hm), szs_get i m hm, has_small hm (Nat.le_refl _)]; rfl
  ·have ht := has_top (by omega) h
   have hm' : m - 2 ^ i < 2 ^ i := by rw [Nat.pow_succ] at h; omega
   rw [List.getElem?_append_right (by rw [szs_length]; omega), szs_length, List.getElem?_map, szs_get i _ hm', ht]
   have e : card i (has (m - 2 ^ i)) = card i (has m) := card_congr fun j hj => has_sub_ne ht (by omega)
   rw [e]; rfl
def tog1 (tg : List Nat) (o : Nat) : List Nat := tg ++ tg.map (· ||| o)
def togs (os : List Nat) : List Nat := os.foldl tog1 [0]
theorem togs_snoc {os : List Nat} {i o : Nat} (h : os[i]? = some o) : togs (os.take (i + 1)) = tog1 (togs (os.take i)) o := by
 unfold togs
 have e : os.take (i + 1) = os.take i ++ [o] := by rw [List.take_succ, h]; rfl
 rw [e, List.foldl_append]; rfl
theorem togs_ok (os : List Nat) : ∀ i, i ≤ os.length → (togs (os.take i)).length = 2 ^ i ∧ ∀ m, m < 2 ^ i → ∃ T, (togs (os.take i))[m]? = some T ∧ ∀ j, has T j = true ↔ ∃ l o, l < i ∧ has m l = true ∧ os[l]? = some o ∧ has o j = true
 | 0, _ => by
  refine ⟨rfl, fun m h => ⟨0, ?_, fun j => ?_⟩⟩
  ·have e : m = 0 := by simpa using h
   subst e; rfl
  ·constructor
   ·intro h; unfold has at h; simp at h
   ·rintro ⟨l, _, h, _⟩; omega
 | i + 1, hi => by
  obtain ⟨h1, h2⟩ := togs_ok os i (by omega)
  have ho : os[i]? = some os[i] := List.getElem?_eq_getElem (by omega)
  rw [togs_snoc ho]
  unfold tog1
  refine ⟨by rw [List.length_append, List.length_map, h1, Nat.pow_succ]; omega, fun m h => ?_⟩
  by_cases hm : m < 2 ^ i
  ·obtain ⟨T, hT, hj⟩ := h2 m hm
   refine ⟨T, by rw [List.getElem?_append_left (by rw [h1]; exact hm)]; exact hT, fun j => (hj j).trans ?_⟩
   constructor
   ·rintro ⟨l, o, hl, r⟩; exact ⟨l, o, by omega, r⟩
   ·rintro ⟨l, o, hl, hml, r⟩
    have := has_lt hm hml
    exact ⟨l, o, this, hml, r⟩
  ·have ht := has_top (by omega) h
   have hm' : m - 2 ^ i < 2 ^ i := by rw [Nat.pow_succ] at h; omega
   obtain ⟨T, hT, hj⟩ := h2 _ hm'
   refine ⟨T ||| os[i], by rw [List.getElem?_append_right (by rw [h1]; omega), h1, List.getElem?_map, hT]; rfl, fun j => ?_⟩
   rw [has_testBit, Nat.testBit_or, ← has_testBit, ← has_testBit, Bool.or_eq_true, hj]
   constructor
   ·rintro (⟨l, o, hl, hml, r⟩ | h)
    ·exact ⟨l, o, by omega, by rw [← has_sub_ne ht (by omega)]; exact hml, r⟩
    ·exact ⟨i, os[i], by omega, ht, ho, h⟩
   ·rintro ⟨l, o, hl, hml, hlo, hoj⟩
    by_cases e : l = i
    ·subst e
     rw [ho] at hlo
     cases hlo
     exact .inr hoj
    ·exact .inl ⟨l, o, by omega, by rw [has_sub_ne ht e]; exact hml, hlo, hoj⟩
def own (n : Nat) (p : Nat → Bool) : Nat := sumR n fun k => if p k = true then 2 ^ k else 0
theorem own_ok (p : Nat → Bool) : ∀ n, own n p < 2 ^ n ∧ ∀ j, has (own n p) j = (decide (j < n) && p j)
 | 0 => ⟨Nat.zero_lt_one, fun j => by unfold own; rw [sumR_zero]; unfold has; simp⟩
 | n + 1 => by
  obtain ⟨h1, h2⟩ := own_ok p n
  have e : own (n + 1) p = own n p + if p n = true then 2 ^ n else 0 := sumR_succ _ _
  rw [e]
  cases hp : p n with
  | false =>
   simp only [Bool.false_eq_true, if_false, Nat.add_zero]
   refine ⟨by rw [Nat.pow_succ]; omega, fun j => ?_⟩
   rw [h2]
   by_cases q : j = n
   ·subst q; simp [hp]
   ·have : decide (j < n + 1) = decide (j < n) := decide_eq_decide.mpr (by omega)
    rw [this]
  | true =>
   simp only [if_true]
   refine ⟨by rw [Nat.pow_succ]; omega, fun j => ?_⟩
   rw [has_add (has_small h1 (Nat.le_refl _)), h2]
   by_cases q : j = n
   ·subst q; simp [hp]
   ·have : decide (j < n + 1) = decide (j < n) := decide_eq_decide.mpr (by omega)
    rw [this]; simp [q]
theorem own_sum (n : Nat) (r : List Bool) : ((leftOf n r).map fun (k : Nat) => ((2 ^ k : Nat) : Int)).sum = ((own n (flagR r) : Nat) : Int) := by
 unfold leftOf own sumR
 induction n with
 | zero => rfl
 | succ n ih =>
  rw [List.range_succ, List.filter_append, List.map_append, List.sum_append, List.map_append, List.sum_append, ih, Int.natCast_add]
  congr 1
  cases h : flagR r n <;> simp [h]
def crowdP (n : Nat) (t : Table) (l k m : Nat) : Bool := !has m l && decide (open_ n t m k < (members n m).length)
theorem open_card (n : Nat) (t : Table) (m k : Nat) : open_ n t m k = card n fun j => j != k && (members n m).any fun l => flagAt t l j := by rw [card_filter]; rfl
theorem open_eq {n : Nat} {t : Table} {m k T : Nat} (hk : k < n) (hT : ∀ j, j < n → (has T j = true ↔ ∃ l, l < n ∧ has m l = true ∧ flagAt t l j = true)) : card n (has (T &&& (2 ^ n - 1 - 2 ^ k))) = open_ n t m k := by
 rw [open_card]
 refine card_congr fun j hj => ?_
 rw [has_testBit, Nat.testBit_and, ← has_testBit, ← has_testBit, has_sub j (has_full hk), has_full hj, Bool.eq_iff_iff]
 simp only [Bool.and_eq_true, Bool.true_and, decide_eq_true_eq, bne_iff_ne, List.any_eq_true]
 rw [hT j hj]
 unfold members
 constructor
 ·rintro ⟨⟨l, h1, h2, h3⟩, h4⟩
  exact ⟨h4, l, List.mem_filter.mpr ⟨List.mem_range.mpr h1, h2⟩, h3⟩
 ·rintro ⟨h4, l, h1, h3⟩
  obtain ⟨h1, h2⟩ := List.mem_filter.mp h1
  exact ⟨⟨l, List.mem_range.mp h1, h2, h3⟩, h4⟩
theorem crowd_some {t : Table} {l k : Nat} (hl : l < t.length) (hk : k < t.length) (hf : flagAt t l k = true) (hp : possible t.length t l k = false) :
  ∃ m0, witness t.length t l k = some m0 ∧ m0 < 2 ^ t.length ∧ crowdP t.length t l k m0 = true ∧ ∀ m, m < 2 ^ t.length → crowdP t.length t l k m = true → m0 ≤ m := by
 obtain ⟨A, hA, hc⟩ := not_possible hl hk hf hp
 obtain ⟨h1, h2⟩ := own_ok A t.length
 refine find_some (p := crowdP t.length t l k) h1 ?_
 unfold crowdP
 rw [h2, hA, Bool.and_false, Bool.not_false, Bool.true_and, decide_eq_true_iff, members_card, open_card]
 have e1 : card t.length (has (own t.length A)) = card t.length A := card_congr fun i hi => by rw [h2, decide_eq_true hi]; rfl
 have e2 : card t.length (fun j => j != k && (members t.length (own t.length A)).any fun l => flagAt t l j) = card t.length (nb t.length (fun i j => flagAt t i j && decide (j ≠ k)) A) := card_congr fun j hj => by
  rw [Bool.eq_iff_iff, nb_iff]
  simp only [Bool.and_eq_true, bne_iff_ne, List.any_eq_true, decide_eq_true_eq]
  unfold members
  constructor
  ·rintro ⟨h4, i, h5, h6⟩
   obtain ⟨h5, h7⟩ := List.mem_filter.mp h5
   have hi := List.mem_range.mp h5
   rw [h2, decide_eq_true hi, Bool.true_and] at h7
   exact ⟨i, hi, h7, h6, h4⟩
  ·rintro ⟨i, hi, h5, h6, h4⟩
   exact ⟨h4, i, List.mem_filter.mpr ⟨List.mem_range.mpr hi, by rw [h2, decide_eq_true hi, h5]; rfl⟩, h6⟩
 rw [e1, e2]; exact hc
end UK
set_option linter.all false
namespace UK
open Vbrgad
def fact : Nat → Nat
 | 0 => 1
 | n + 1 => (n + 1) * fact n
theorem fact_pos : ∀ n, 0 < fact n
 | 0 => Nat.one_pos
 | n + 1 => Nat.mul_pos (Nat.succ_pos n) (fact_pos n)
theorem fact_mono {a b : Nat} (h : a ≤ b) : fact a ≤ fact b := by
 induction h with
 | refl => exact Nat.le_refl _
 | @step m _ ih =>
  refine Nat.le_trans ih ?_
  show fact m ≤ (m + 1) * fact m
  exact Nat.le_mul_of_pos_left _ (Nat.succ_pos m)
theorem sumR_card (n c : Nat) (p : Nat → Bool) : (sumR n fun k => if p k = true then c else 0) = card n p * c := by
 unfold card
 rw [Nat.mul_comm, sumR_mul]
 refine sumR_congr fun k _ => ?_
 cases p k <;> simp
theorem cnt_fact (n : Nat) : ∀ (a : Table) (m : Nat), cnt n a m ≤ fact (card n (has m))
 | [], m => by
  show (if m = 0 then 1 else 0) ≤ _
  have := fact_pos (card n (has m))
  split <;> omega
 | r :: a, m => by
  show sumR n _ ≤ _
  cases hc : card n (has m) with
  | zero =>
   have : sumR n (fun k => if has m k = true ∧ flagR r k = true then cnt n a (m - 2 ^ k) else 0) = 0 := by
    refine (sumR_congr fun k hk => ?_).trans (sumR_const0 n)
    rw [if_neg]
    rintro ⟨h, _⟩
    have := card_pos.mpr ⟨k, hk, h⟩
    omega
   rw [this]; exact Nat.zero_le _
  | succ c =>
   have h1 : sumR n (fun k => if has m k = true ∧ flagR r k = true then cnt n a (m - 2 ^ k) else 0) ≤ sumR n (fun k => if has m k = true then fact c else 0) := sumR_le fun k hk => by
    by_cases h : has m k = true
    ·rw [if_pos h]
     by_cases h2 : flagR r k = true
     ·rw [if_pos ⟨h, h2⟩]
      have e := card_minus hk h
      have e2 : card n (has (m - 2 ^ k)) = card n (fun i => has m i && decide (i ≠ k)) := card_congr fun i _ => has_sub i h
      have := cnt_fact n a (m - 2 ^ k)
      rw [e2, show card n (fun i => has m i && decide (i ≠ k)) = c by omega] at this
      exact this
     ·rw [if_neg (fun q => h2 q.2)]; exact Nat.zero_le _
    ·rw [if_neg (fun q => h q.1), if_neg h]; exact Nat.le_refl _
   rw [sumR_card, hc] at h1
   exact h1
theorem card_le (n : Nat) (p : Nat → Bool) : card n p ≤ n := by
 rw [card_filter]
 exact Nat.le_trans (List.length_filter_le _ _) (by simp)
theorem count_small {n : Nat} (a : Table) (hn : n ≤ 10) : count n a ≤ 3628800 := by
 rw [count_eq]
 exact Nat.le_trans (cnt_fact n a _) (Nat.le_trans (fact_mono (Nat.le_trans (card_le n _) hn)) (by decide))
theorem countWith_le {n : Nat} {a : Table} {l k : Nat} (hl : l < a.length) (hk : k < n) : countWith n a l k ≤ count n a := by
 rw [count_eq_sum hl]
 have : sumR n (fun j => if j = k then countWith n a l k else 0) ≤ sumR n (fun j => countWith n a l j) := sumR_le fun j _ => by
  split
  ·rename_i e; subst e; exact Nat.le_refl _
  ·exact Nat.zero_le _
 rw [sumR_single hk] at this
 ·simpa using this
 ·intro j _ hne; simp [hne]
def grp (ns row : List Nat) (o : Nat) : Nat := lsum (ns.zip row) fun q => if q.2 = o then q.1 else 0
theorem val_nd : ∀ {ws : Ws}, (ws.map (·.1)).Nodup → ∀ {p : Nat × Nat}, p ∈ ws → val ws p.1 = p.2
 | q :: ws, h, p, hp => by
  have hn := List.nodup_cons.mp (show (q.1 :: ws.map (·.1)).Nodup from h)
  rw [val_cons]
  rcases List.mem_cons.mp hp with rfl | hp
  ·rw [if_pos rfl, val_out hn.1]; rfl
  ·rw [if_neg (fun (e : q.1 = p.1) => hn.1 (e ▸ List.mem_map_of_mem (f := (·.1)) hp)), val_nd hn.2 hp]; omega
theorem put_keys (ws : Ws) (T c : Nat) : (put ws T c).map (·.1) = if T ∈ ws.map (·.1) then ws.map (·.1) else ws.map (·.1) ++ [T] := by
 unfold put
 by_cases h : T ∈ ws.map (·.1)
 ·rw [if_pos ((any_iff ws T).mpr h), if_pos h, keys_repl]
 ·rw [if_neg (fun z => h ((any_iff ws T).mp z)), if_neg h, List.map_append]; rfl
theorem put_nd {ws : Ws} (h : (ws.map (·.1)).Nodup) (T c : Nat) : ((put ws T c).map (·.1)).Nodup := by
 rw [put_keys]
 by_cases hm : T ∈ ws.map (·.1)
 ·rw [if_pos hm]; exact h
 ·rw [if_neg hm, List.nodup_append]
  refine ⟨h, by simp, fun x hx y hy => ?_⟩
  have e : y = T := by simpa using hy
  subst e
  exact fun q => hm (q ▸ hx)
theorem put_mem (ws : Ws) (T c : Nat) : (T, c) ∈ put ws T c := by
 unfold put
 by_cases h : (ws.any fun p => decide (p.1 = T)) = true
 ·rw [if_pos h]
  obtain ⟨p, hp, e⟩ := List.mem_map.mp ((any_iff ws T).mp h)
  exact List.mem_map.mpr ⟨p, hp, by rw [if_pos e, e]⟩
 ·rw [if_neg h]; simp
theorem val_put_nd {ws : Ws} (h : (ws.map (·.1)).Nodup) (T c S : Nat) : val (put ws T c) S = if S = T then c else val ws S := by
 by_cases e : S = T
 ·subst e
  rw [if_pos rfl]
  exact val_nd (put_nd h S c) (put_mem ws S c)
 ·rw [if_neg e]
  unfold put
  by_cases ha : (ws.any fun p => decide (p.1 = T)) = true
  ·rw [if_pos ha, val_repl_ne ws e]
  ·rw [if_neg ha]
   unfold val
   rw [lsum_append, lsum_cons, lsum_nil]
   have : ¬ T = S := fun q => e q.symm
   simp only [if_neg this]; omega
def outs1 (ws : Ws) (q : Nat × Nat) : Ws := bump ws q.2 q.1
theorem outs_ok : ∀ (qs : List (Nat × Nat)) (ws : Ws), (ws.map (·.1)).Nodup → ((qs.foldl outs1 ws).map (·.1)).Nodup ∧ (∀ o, val (qs.foldl outs1 ws) o = val ws o + lsum qs fun q => if q.2 = o then q.1 else 0) ∧
  (∀ o, o ∈ (qs.foldl outs1 ws).map (·.1) ↔ o ∈ ws.map (·.1) ∨ ∃ q ∈ qs, q.2 = o)
 | [], ws, h => ⟨h, fun o => by rw [lsum_nil]; rfl, fun o => by simp⟩
 | q :: qs, ws, h => by
  obtain ⟨h1, h2, h3⟩ := outs_ok qs (outs1 ws q) (put_nd h _ _)
  refine ⟨h1, fun o => ?_, fun o => ?_⟩
  ·rw [List.foldl_cons, h2, lsum_cons]
   unfold outs1 bump
   rw [val_put_nd h]
   by_cases e : q.2 = o
   ·subst e; simp; omega
   ·have : ¬ o = q.2 := fun z => e z.symm
    simp [e, this]
  ·rw [List.foldl_cons, h3]
   unfold outs1 bump
   rw [put_keys]
   by_cases hm : q.2 ∈ ws.map (·.1)
   ·rw [if_pos hm]
    constructor
    ·rintro (h | ⟨z, hz, e⟩)
     ·exact .inl h
     ·exact .inr ⟨z, List.mem_cons_of_mem _ hz, e⟩
    ·rintro (h | ⟨z, hz, e⟩)
     ·exact .inl h
     ·rcases List.mem_cons.mp hz with rfl | hz
      ·exact .inl (e ▸ hm)
      ·exact .inr ⟨z, hz, e⟩
   ·rw [if_neg hm]
    constructor
    ·rintro (h | ⟨z, hz, e⟩)
     ·rcases List.mem_append.mp h with h | h
      ·exact .inl h
      ·exact .inr ⟨q, List.mem_cons_self .., (by simpa using h : o = q.2).symm⟩
     ·exact .inr ⟨z, List.mem_cons_of_mem _ hz, e⟩
    ·rintro (h | ⟨z, hz, e⟩)
     ·exact .inl (List.mem_append.mpr (.inl h))
     ·rcases List.mem_cons.mp hz with rfl | hz
      ·exact .inl (List.mem_append.mpr (.inr (by simp [e])))
      ·exact .inr ⟨z, hz, e⟩
theorem foldl_max_ge : ∀ (l : List Nat) (b : Nat), b ≤ l.foldl max b ∧ ∀ y ∈ l, y ≤ l.foldl max b
 | [], b => ⟨Nat.le_refl _, (fun y h => nomatch h)⟩
 | x :: l, b => by
  obtain ⟨h1, h2⟩ := foldl_max_ge l (max b x)
  refine ⟨Nat.le_trans (Nat.le_max_left _ _) h1, fun y hy => ?_⟩
  rcases List.mem_cons.mp hy with rfl | hy
  ·exact Nat.le_trans (Nat.le_max_right _ _) h1
  ·exact h2 y hy
theorem foldl_max_le : ∀ (l : List Nat) (b m : Nat), b ≤ m → (∀ y ∈ l, y ≤ m) → l.foldl max b ≤ m
 | [], b, m, h, _ => h
 | x :: l, b, m, h, hl => foldl_max_le l (max b x) m (Nat.max_le.mpr ⟨h, hl x (List.mem_cons_self ..)⟩) fun y hy => hl y (List.mem_cons_of_mem _ hy)
theorem foldl_max_eq {l : List Nat} {m : Nat} (h1 : m ∈ l) (h2 : ∀ y ∈ l, y ≤ m) : l.foldl max 0 = m :=
 Nat.le_antisymm (foldl_max_le l 0 m (Nat.zero_le _) h2) ((foldl_max_ge l 0).2 m h1)
def worst (ns row : List Nat) : Nat := ((List.range 10).map (grp ns row)).foldl max 0
theorem worst_eq {ns row : List Nat} (hr : ∀ x ∈ row, x ≤ 9) {m : Nat} (h1 : m ∈ ((ns.zip row).foldl outs1 []).map (·.2)) (h2 : ∀ y ∈ ((ns.zip row).foldl outs1 []).map (·.2), y ≤ m) : worst ns row = m := by
 obtain ⟨hnd, hval, hkey⟩ := outs_ok (ns.zip row) [] List.nodup_nil
 have hv : ∀ o, val ((ns.zip row).foldl outs1 []) o = grp ns row o := fun o => by rw [hval]; exact Nat.zero_add _
 refine foldl_max_eq ?_ fun y hy => ?_
 ·obtain ⟨p, hp, rfl⟩ := List.mem_map.mp h1
  have hk : p.1 ∈ ((ns.zip row).foldl outs1 []).map (·.1) := List.mem_map_of_mem hp
  rcases (hkey p.1).mp hk with h | ⟨q, hq, e⟩
  ·simp at h
  ·have := hr q.2 (List.of_mem_zip hq).2
   refine List.mem_map.mpr ⟨p.1, List.mem_range.mpr (by omega), ?_⟩
   rw [← hv, val_nd hnd hp]
 ·obtain ⟨o, ho, rfl⟩ := List.mem_map.mp hy
  rw [← hv]
  by_cases hk : o ∈ ((ns.zip row).foldl outs1 []).map (·.1)
  ·obtain ⟨p, hp, rfl⟩ := List.mem_map.mp hk
   rw [val_nd hnd hp]
   exact h2 _ (List.mem_map_of_mem hp)
  ·rw [val_out hk]; exact Nat.zero_le _
theorem outs_ne {ns row : List Nat} (h : 0 < ns.length) (h2 : 0 < row.length) : 0 < ((ns.zip row).foldl outs1 []).length := by
 obtain ⟨_, _, hkey⟩ := outs_ok (ns.zip row) [] List.nodup_nil
 obtain ⟨x, ns, rfl⟩ := List.exists_cons_of_length_pos h
 obtain ⟨y, row, rfl⟩ := List.exists_cons_of_length_pos h2
 have : y ∈ (((x :: ns).zip (y :: row)).foldl outs1 []).map (·.1) := (hkey y).mpr (.inr ⟨(x, y), List.mem_cons_self .., rfl⟩)
 have := List.length_pos_of_mem this
 rwa [List.length_map] at this
theorem zip_range {n : Nat} {f : Nat → Nat} {row : List Nat} (h : row.length = n) : ((List.range n).map f).zip row = (List.range n).map fun k => (f k, row.getD k 10) := by
 apply List.ext_getElem?
 intro i
 by_cases hi : i < n
 ·rw [List.getElem?_map, List.getElem?_range hi]
  show _ = some (f i, row.getD i 10)
  rw [List.getElem?_zip_eq_some]
  refine ⟨by rw [List.getElem?_map, List.getElem?_range hi]; rfl, ?_⟩
  rw [List.getD_eq_getElem?_getD, List.getElem?_eq_getElem (by omega)]; rfl
 ·rw [List.getElem?_eq_none_iff.mpr (by simp; omega), List.getElem?_eq_none_iff.mpr (by simp; omega)]
theorem grp_eq {n : Nat} {a : Table} {l : Nat} {row : List Nat} (hl : l < a.length) (h : row.length = n) (o : Nat) : grp ((List.range n).map (countWith n a l)) row o = count n (narrowed (fun k => (row[k]?).getD OUTCOMES == o) l a) := by
 unfold grp
 rw [zip_range h, count_narrowed _ hl]
 show ((((List.range n).map fun k => (countWith n a l k, row.getD k 10)).map fun q => if q.2 = o then q.1 else 0)).sum = _
 rw [List.map_map]
 show sumR n _ = sumR n _
 refine sumR_congr fun k hk => ?_
 show (if row.getD k 10 = o then countWith n a l k else 0) = _
 rw [countWith_eq hl hk, List.getD_eq_getElem?_getD]
 have e : ((row[k]?).getD 10 = o) ↔ ((row[k]?).getD OUTCOMES == o) = true := by rw [beq_iff_eq]; exact Iff.rfl
 by_cases h1 : flagAt a l k = true
 ·by_cases h2 : (row[k]?).getD 10 = o
  ·rw [if_pos h2, if_pos h1, if_pos ⟨h1, e.mp h2⟩]
  ·rw [if_neg h2, if_neg (fun q => h2 (e.mpr q.2))]
 ·simp [h1]
theorem worst_leftBy {n : Nat} {a : Table} {l : Nat} {row : List Nat} (hl : l < a.length) (h : row.length = n) : worst ((List.range n).map (countWith n a l)) row = leftBy n a row l := by
 unfold worst leftBy
 congr 1
 exact List.map_congr_left fun o _ => grp_eq hl h o
theorem leftBy_le {n : Nat} {a : Table} {l : Nat} {row : List Nat} (hl : l < a.length) : leftBy n a row l ≤ count n a := by
 refine foldl_max_le _ _ _ (Nat.zero_le _) fun y hy => ?_
 obtain ⟨o, _, rfl⟩ := List.mem_map.mp hy
 rw [count_narrowed _ hl, count_row hl]
 refine sumR_le fun k _ => ?_
 by_cases h1 : flagAt a l k = true
 ·rw [if_pos h1]
  split
  ·exact Nat.le_refl _
  ·exact Nat.zero_le _
 ·rw [if_neg h1, if_neg (fun q => h1 q.1)]; exact Nat.le_refl _
theorem best_fold (g : Nat → Nat) (b0 c0 : Nat) : ∀ i, (∀ l, l < i + 1 → g l < c0) → ∃ j, j < i + 1 ∧ ((List.range (i + 1)).map fun l => (l, g l)).foldl (fun b x => if x.2 < b.2 then x else b) (b0, c0) = (j, g j) ∧ (∀ l, l < i + 1 → g j ≤ g l) ∧ ∀ l, l < j → g j < g l
 | 0, h => by
  refine ⟨0, by omega, ?_, fun l hl => ?_, fun l hl => by omega⟩
  ·show (if g 0 < c0 then (0, g 0) else (b0, c0)) = _
   rw [if_pos (h 0 (by omega))]
  ·have : l = 0 := by omega
   subst this; exact Nat.le_refl _
 | i + 1, h => by
  obtain ⟨j, hj, e, h1, h2⟩ := best_fold g b0 c0 i fun l hl => h l (by omega)
  rw [List.range_succ, List.map_append, List.foldl_append, e]
  show ∃ j', _ ∧ (if g (i + 1) < g j then (i + 1, g (i + 1)) else (j, g j)) = _ ∧ _
  by_cases hlt : g (i + 1) < g j
  ·refine ⟨i + 1, by omega, by rw [if_pos hlt], fun l hl => ?_, fun l hl => ?_⟩
   ·by_cases q : l = i + 1
    ·subst q; exact Nat.le_refl _
    ·have := h1 l (by omega); omega
   ·have := h1 l (by omega); omega
  ·refine ⟨j, by omega, by rw [if_neg hlt], fun l hl => ?_, h2⟩
   by_cases q : l = i + 1
   ·subst q; omega
   ·exact h1 l (by omega)
theorem best_at {n : Nat} {a : Table} {row : List Nat} (hn : 1 ≤ n) (ha : a.length = n) : ∃ j, j < n ∧ best n a row = (j, leftBy n a row j) ∧ (∀ l, l < n → leftBy n a row j ≤ leftBy n a row l) ∧ ∀ l, l < j → leftBy n a row j < leftBy n a row l := by
 obtain ⟨i, rfl⟩ : ∃ i, n = i + 1 := ⟨n - 1, by omega⟩
 exact best_fold (leftBy (i + 1) a row) (i + 1) (count (i + 1) a + 1) i fun l hl => Nat.lt_succ_of_le (leftBy_le (by omega))
theorem fits_iff {n : Nat} {t : Table} {p : List Nat} (ht : t.length = n) (hp : p.length = n) (hpair : isPairing n p = true) : fits n t p = ((p.zip (t.map (leftOf n))).map fun q => q.2.contains q.1).all id := by
 have hm : ∀ k, k < p.length → k ∈ p := pairing_mem (by rw [hp]; exact hpair)
 have hlt := pairing_lt hm
 have hall : ((List.range n).all fun k => p.contains k) = true := by
  unfold isPairing at hpair
  rw [Bool.and_eq_true] at hpair
  exact hpair.2
 unfold fits
 rw [hall, decide_eq_true hp, Bool.true_and, Bool.and_true, Bool.eq_iff_iff, List.all_eq_true, List.all_map, List.all_eq_true]
 constructor
 ·intro h q hq
  obtain ⟨i, hi, e⟩ := List.mem_iff_getElem.mp hq
  have hi' : i < n := by simp at hi; omega
  have h1 := h i (List.mem_range.mpr hi')
  have hpi : p[i]? = some p[i] := List.getElem?_eq_getElem (by omega)
  have hti : t[i]? = some t[i] := List.getElem?_eq_getElem (by omega)
  rw [hpi] at h1
  have hk : p[i] < n := Nat.lt_of_lt_of_eq (hlt _ (List.getElem_mem (by omega))) hp
  have e2 : q = (p[i], leftOf n t[i]) := by rw [← e]; simp
  rw [e2]
  show (leftOf n t[i]).contains p[i] = true
  rw [List.contains_iff_mem]
  exact (flagAt_mem hti hk).mp h1
 ·intro h i hi
  have hi' := List.mem_range.mp hi
  have hpi : p[i]? = some p[i] := List.getElem?_eq_getElem (by omega)
  have hti : t[i]? = some t[i] := List.getElem?_eq_getElem (by omega)
  have hk : p[i] < n := Nat.lt_of_lt_of_eq (hlt _ (List.getElem_mem (by omega))) hp
  rw [hpi]
  refine (flagAt_mem hti hk).mpr ?_
  have := h (p[i], leftOf n t[i]) (List.mem_of_getElem? (i := i) (by rw [List.getElem?_zip_eq_some]; exact ⟨hpi, by rw [List.getElem?_map, hti]; rfl⟩))
  exact List.contains_iff_mem.mp this
theorem fits_not {n : Nat} {t : Table} {p : List Nat} (h : isPairing n p = false) : fits n t p = false := by
 unfold isPairing at h
 unfold fits
 cases e : decide (p.length = n) with
 | false => rfl
 | true =>
  rw [e, Bool.true_and] at h
  rw [h, Bool.and_false]
end UK
set_option Elab.async false
set_option linter.all false
set_option maxRecDepth 100000
set_option maxHeartbeats 4000000
namespace UK
open PySem PySem.Spec PyProof.Rows L2
def top (i : Nat) : Stmt := PySem.Challenge.pw_unknownkinds_s01_answers.main.body.getD i (.Pass ⟨0, 0, 0, 0⟩)
abbrev s_is_pairing : Stmt := top 1
theorem sc_is_pairing : FnScope ["row"] ["row"] (defScope s_is_pairing) := ⟨rfl, rfl, rfl, by decide +kernel, rfl, by decide +kernel, by decide +kernel⟩
abbrev s_does_fit : Stmt := top 2
theorem sc_does_fit : FnScope ["left", "row", "kind", "kinds"] ["left", "row"] (defScope s_does_fit) := ⟨rfl, rfl, rfl, by decide +kernel, rfl, by decide +kernel, by decide +kernel⟩
abbrev s_count_pairings : Stmt := top 3
theorem sc_count_pairings : FnScope ["left"] ["left"] (defScope s_count_pairings) := ⟨rfl, rfl, rfl, by decide +kernel, rfl, by decide +kernel, by decide +kernel⟩
abbrev s_pairings_by_kind : Stmt := top 4
theorem sc_pairings_by_kind : FnScope ["left", "before", "behind", "how_many", "look", "kinds"] ["left"] (defScope s_pairings_by_kind) := ⟨rfl, rfl, rfl, by decide +kernel, rfl, by decide +kernel, by decide +kernel⟩
abbrev s_pairings_of_look : Stmt := top 5
theorem sc_pairings_of_look : FnScope ["kinds", "before", "behind", "how_many", "numbers", "taken", "ways", "free", "kind"] ["kinds", "before", "behind", "how_many"] (defScope s_pairings_of_look) := ⟨rfl, rfl, rfl, by decide +kernel, rfl, by decide +kernel, by decide +kernel⟩
abbrev s_possible_kinds : Stmt := top 6
theorem sc_possible_kinds : FnScope ["left", "numbers"] ["left"] (defScope s_possible_kinds) := ⟨rfl, rfl, rfl, by decide +kernel, rfl, by decide +kernel, by decide +kernel⟩
abbrev s_kinds_with_some : Stmt := top 7
theorem sc_kinds_with_some : FnScope ["numbers", "kind", "number"] ["numbers"] (defScope s_kinds_with_some) := ⟨rfl, rfl, rfl, by decide +kernel, rfl, by decide +kernel, by decide +kernel⟩
abbrev s_first_pairing : Stmt := top 8
theorem sc_first_pairing : FnScope ["left", "behind", "free", "pairing", "look", "kinds", "kind"] ["left"] (defScope s_first_pairing) := ⟨rfl, rfl, rfl, by decide +kernel, rfl, by decide +kernel, by decide +kernel⟩
abbrev s_least_kind : Stmt := top 9
theorem sc_least_kind : FnScope ["kinds", "free", "behind", "kind"] ["kinds", "free", "behind"] (defScope s_least_kind) := ⟨rfl, rfl, rfl, by decide +kernel, rfl, by decide +kernel, by decide +kernel⟩
abbrev s_crowded_looks : Stmt := top 10
theorem sc_crowded_looks : FnScope ["left", "look", "kind", "together", "sizes", "spared", "crowded", "looks", "kinds"] ["left", "look", "kind"] (defScope s_crowded_looks) := ⟨rfl, rfl, rfl, by decide +kernel, rfl, by decide +kernel, by decide +kernel⟩
abbrev s_kinds_together : Stmt := top 11
theorem sc_kinds_together : FnScope ["left", "together", "kinds", "own", "kind", "others"] ["left"] (defScope s_kinds_together) := ⟨rfl, rfl, rfl, by decide +kernel, rfl, by decide +kernel, by decide +kernel⟩
abbrev s_sizes_of_sets : Stmt := top 12
theorem sc_sizes_of_sets : FnScope ["how_many", "sizes", "size"] ["how_many"] (defScope s_sizes_of_sets) := ⟨rfl, rfl, rfl, by decide +kernel, rfl, by decide +kernel, by decide +kernel⟩
abbrev s_ways_to_take : Stmt := top 13
theorem sc_ways_to_take : FnScope ["left", "steps", "kinds"] ["left"] (defScope s_ways_to_take) := ⟨rfl, rfl, rfl, by decide +kernel, rfl, by decide +kernel, by decide +kernel⟩
abbrev s_ways_to_take_behind : Stmt := top 14
theorem sc_ways_to_take_behind : FnScope ["left", "steps"] ["left"] (defScope s_ways_to_take_behind) := ⟨rfl, rfl, rfl, by decide +kernel, rfl, by decide +kernel, by decide +kernel⟩
abbrev s_ways_with_one_more : Stmt := top 15
theorem sc_ways_with_one_more : FnScope ["ways", "kinds", "grown", "taken", "number", "kind", "more"] ["ways", "kinds"] (defScope s_ways_with_one_more) := ⟨rfl, rfl, rfl, by decide +kernel, rfl, by decide +kernel, by decide +kernel⟩
abbrev s_all_of : Stmt := top 16
theorem sc_all_of : FnScope ["how_many"] ["how_many"] (defScope s_all_of) := ⟨rfl, rfl, rfl, by decide +kernel, rfl, by decide +kernel, by decide +kernel⟩
abbrev s_set_of : Stmt := top 17
theorem sc_set_of : FnScope ["member"] ["member"] (defScope s_set_of) := ⟨rfl, rfl, rfl, by decide +kernel, rfl, by decide +kernel, by decide +kernel⟩
abbrev s_has_member : Stmt := top 18
theorem sc_has_member : FnScope ["these", "member"] ["these", "member"] (defScope s_has_member) := ⟨rfl, rfl, rfl, by decide +kernel, rfl, by decide +kernel, by decide +kernel⟩
abbrev s_members_of : Stmt := top 19
theorem sc_members_of : FnScope ["these", "how_many", "member"] ["these", "how_many"] (defScope s_members_of) := ⟨rfl, rfl, rfl, by decide +kernel, rfl, by decide +kernel, by decide +kernel⟩
abbrev s_Line_init : Stmt := inClass (top 30) 0
theorem sc_Line_init : FnScope ["self", "calls"] ["self", "calls"] (defScope s_Line_init) := ⟨rfl, rfl, rfl, by decide +kernel, rfl, by decide +kernel, by decide +kernel⟩
abbrev s_Line_is_over : Stmt := inClass (top 30) 1
theorem sc_Line_is_over : FnScope ["self"] ["self"] (defScope s_Line_is_over) := ⟨rfl, rfl, rfl, by decide +kernel, rfl, by decide +kernel, by decide +kernel⟩
abbrev s_Line_take_number : Stmt := inClass (top 30) 2
theorem sc_Line_take_number : FnScope ["self", "number"] ["self"] (defScope s_Line_take_number) := ⟨rfl, rfl, rfl, by decide +kernel, rfl, by decide +kernel, by decide +kernel⟩
abbrev s_Line_take_numbers : Stmt := inClass (top 30) 3
theorem sc_Line_take_numbers : FnScope ["self", "how_many", "begin"] ["self", "how_many"] (defScope s_Line_take_numbers) := ⟨rfl, rfl, rfl, by decide +kernel, rfl, by decide +kernel, by decide +kernel⟩
abbrev s_Line_take_rows : Stmt := inClass (top 30) 4
theorem sc_Line_take_rows : FnScope ["self", "how_many", "rows", "length"] ["self", "how_many"] (defScope s_Line_take_rows) := ⟨rfl, rfl, rfl, by decide +kernel, rfl, by decide +kernel, by decide +kernel⟩
abbrev s_House_init : Stmt := inClass (top 31) 0
theorem sc_House_init : FnScope ["self"] ["self"] (defScope s_House_init) := ⟨rfl, rfl, rfl, by decide +kernel, rfl, by decide +kernel, by decide +kernel⟩
abbrev s_House_is_open : Stmt := inClass (top 31) 1
theorem sc_House_is_open : FnScope ["self"] ["self"] (defScope s_House_is_open) := ⟨rfl, rfl, rfl, by decide +kernel, rfl, by decide +kernel, by decide +kernel⟩
abbrev s_House_has : Stmt := inClass (top 31) 2
theorem sc_House_has : FnScope ["self", "look_or_kind"] ["self", "look_or_kind"] (defScope s_House_has) := ⟨rfl, rfl, rfl, by decide +kernel, rfl, by decide +kernel, by decide +kernel⟩
abbrev s_House_show : Stmt := inClass (top 31) 3
theorem sc_House_show : FnScope ["self", "look", "staying"] ["self", "look", "staying"] (defScope s_House_show) := ⟨rfl, rfl, rfl, by decide +kernel, rfl, by decide +kernel, by decide +kernel⟩
abbrev s_answers : Stmt := top 32
theorem sc_answers : FnScope ["calls", "line", "house", "given", "answer"] ["calls"] (defScope s_answers) := ⟨rfl, rfl, rfl, by decide +kernel, rfl, by decide +kernel, by decide +kernel⟩
abbrev s_answer_next : Stmt := top 33
theorem sc_answer_next : FnScope ["house", "line", "place", "number_ranges", "row_ranges", "numbers", "rows"] ["house", "line"] (defScope s_answer_next) := ⟨rfl, rfl, rfl, by decide +kernel, rfl, by decide +kernel, by decide +kernel⟩
abbrev s_are_numbers_within : Stmt := top 34
theorem sc_are_numbers_within : FnScope ["numbers", "ranges", "number", "limits"] ["numbers", "ranges"] (defScope s_are_numbers_within) := ⟨rfl, rfl, rfl, by decide +kernel, rfl, by decide +kernel, by decide +kernel⟩
abbrev s_are_rows_within : Stmt := top 35
theorem sc_are_rows_within : FnScope ["rows", "ranges", "row", "limits"] ["rows", "ranges"] (defScope s_are_rows_within) := ⟨rfl, rfl, rfl, by decide +kernel, rfl, by decide +kernel, by decide +kernel⟩
abbrev s_is_row_within : Stmt := top 36
theorem sc_is_row_within : FnScope ["row", "limits", "number"] ["row", "limits"] (defScope s_is_row_within) := ⟨rfl, rfl, rfl, by decide +kernel, rfl, by decide +kernel, by decide +kernel⟩
abbrev s_is_within : Stmt := top 37
theorem sc_is_within : FnScope ["number", "limits"] ["number", "limits"] (defScope s_is_within) := ⟨rfl, rfl, rfl, by decide +kernel, rfl, by decide +kernel, by decide +kernel⟩
abbrev s_answer_call : Stmt := top 38
theorem sc_answer_call : FnScope ["house", "place", "numbers", "rows"] ["house", "place", "numbers", "rows"] (defScope s_answer_call) := ⟨rfl, rfl, rfl, by decide +kernel, rfl, by decide +kernel, by decide +kernel⟩
abbrev s_answer_question : Stmt := top 39
theorem sc_answer_question : FnScope ["house", "place", "numbers", "rows"] ["house", "place", "numbers", "rows"] (defScope s_answer_question) := ⟨rfl, rfl, rfl, by decide +kernel, rfl, by decide +kernel, by decide +kernel⟩
abbrev s_open_house : Stmt := top 40
theorem sc_open_house : FnScope ["house", "truth", "look_sorts", "kind_sorts", "prices", "row", "kind", "sort"] ["house", "truth", "look_sorts", "kind_sorts", "prices"] (defScope s_open_house) := ⟨rfl, rfl, rfl, by decide +kernel, rfl, by decide +kernel, by decide +kernel⟩
abbrev s_kinds_of_sort : Stmt := top 41
theorem sc_kinds_of_sort : FnScope ["sort", "kind_sorts", "kind", "kind_sort"] ["sort", "kind_sorts"] (defScope s_kinds_of_sort) := ⟨rfl, rfl, rfl, by decide +kernel, rfl, by decide +kernel, by decide +kernel⟩
abbrev s_tell_outcomes : Stmt := top 42
theorem sc_tell_outcomes : FnScope ["house", "situation", "row"] ["house", "situation", "row"] (defScope s_tell_outcomes) := ⟨rfl, rfl, rfl, by decide +kernel, rfl, by decide +kernel, by decide +kernel⟩
abbrev s_use_look : Stmt := top 43
theorem sc_use_look : FnScope ["house", "look", "situation", "row", "outcome", "kind"] ["house", "look", "situation"] (defScope s_use_look) := ⟨rfl, rfl, rfl, by decide +kernel, rfl, by decide +kernel, by decide +kernel⟩
abbrev s_offer_look : Stmt := top 44
theorem sc_offer_look : FnScope ["house", "look", "dear", "price", "offered", "kind"] ["house", "look", "dear"] (defScope s_offer_look) := ⟨rfl, rfl, rfl, by decide +kernel, rfl, by decide +kernel, by decide +kernel⟩
abbrev s_may_be_offered : Stmt := top 45
theorem sc_may_be_offered : FnScope ["price", "offered"] ["price", "offered"] (defScope s_may_be_offered) := ⟨rfl, rfl, rfl, by decide +kernel, rfl, by decide +kernel, by decide +kernel⟩
abbrev s_dearer_price : Stmt := top 46
theorem sc_dearer_price : FnScope ["price"] ["price"] (defScope s_dearer_price) := ⟨rfl, rfl, rfl, by decide +kernel, rfl, by decide +kernel, by decide +kernel⟩
abbrev s_tell_kind : Stmt := top 47
theorem sc_tell_kind : FnScope ["house", "look", "kind"] ["house", "look"] (defScope s_tell_kind) := ⟨rfl, rfl, rfl, by decide +kernel, rfl, by decide +kernel, by decide +kernel⟩
abbrev s_ask_kind : Stmt := top 48
theorem sc_ask_kind : FnScope ["house", "look", "kind", "other"] ["house", "look", "kind"] (defScope s_ask_kind) := ⟨rfl, rfl, rfl, by decide +kernel, rfl, by decide +kernel, by decide +kernel⟩
abbrev s_answer_possible : Stmt := top 49
theorem sc_answer_possible : FnScope ["house", "look"] ["house", "look"] (defScope s_answer_possible) := ⟨rfl, rfl, rfl, by decide +kernel, rfl, by decide +kernel, by decide +kernel⟩
abbrev s_answer_certain : Stmt := top 50
theorem sc_answer_certain : FnScope ["house", "answer", "kinds"] ["house"] (defScope s_answer_certain) := ⟨rfl, rfl, rfl, by decide +kernel, rfl, by decide +kernel, by decide +kernel⟩
abbrev s_answer_count : Stmt := top 51
theorem sc_answer_count : FnScope ["house"] ["house"] (defScope s_answer_count) := ⟨rfl, rfl, rfl, by decide +kernel, rfl, by decide +kernel, by decide +kernel⟩
abbrev s_answer_left : Stmt := top 52
theorem sc_answer_left : FnScope ["house", "look"] ["house", "look"] (defScope s_answer_left) := ⟨rfl, rfl, rfl, by decide +kernel, rfl, by decide +kernel, by decide +kernel⟩
abbrev s_answer_why : Stmt := top 53
theorem sc_answer_why : FnScope ["house", "look", "kind"] ["house", "look", "kind"] (defScope s_answer_why) := ⟨rfl, rfl, rfl, by decide +kernel, rfl, by decide +kernel, by decide +kernel⟩
abbrev s_answer_try : Stmt := top 54
theorem sc_answer_try : FnScope ["house", "situation", "row", "at_worst", "numbers", "fewest"] ["house", "situation"] (defScope s_answer_try) := ⟨rfl, rfl, rfl, by decide +kernel, rfl, by decide +kernel, by decide +kernel⟩
abbrev s_most_of_one_outcome : Stmt := top 55
theorem sc_most_of_one_outcome : FnScope ["numbers", "row", "by_outcome", "number", "outcome"] ["numbers", "row"] (defScope s_most_of_one_outcome) := ⟨rfl, rfl, rfl, by decide +kernel, rfl, by decide +kernel, by decide +kernel⟩
abbrev s_answer_odds : Stmt := top 56
theorem sc_answer_odds : FnScope ["house", "look", "kind", "numbers"] ["house", "look", "kind"] (defScope s_answer_odds) := ⟨rfl, rfl, rfl, by decide +kernel, rfl, by decide +kernel, by decide +kernel⟩
abbrev s_lowest_terms : Stmt := top 57
theorem sc_lowest_terms : FnScope ["part", "whole", "divisor", "rest", "before"] ["part", "whole"] (defScope s_lowest_terms) := ⟨rfl, rfl, rfl, by decide +kernel, rfl, by decide +kernel, by decide +kernel⟩
abbrev s_answer_fits : Stmt := top 58
theorem sc_answer_fits : FnScope ["house", "row"] ["house", "row"] (defScope s_answer_fits) := ⟨rfl, rfl, rfl, by decide +kernel, rfl, by decide +kernel, by decide +kernel⟩
abbrev s_answer_first : Stmt := top 59
theorem sc_answer_first : FnScope ["house"] ["house"] (defScope s_answer_first) := ⟨rfl, rfl, rfl, by decide +kernel, rfl, by decide +kernel, by decide +kernel⟩
abbrev s_answer_worth : Stmt := top 60
theorem sc_answer_worth : FnScope ["house", "look", "prices", "kind"] ["house", "look"] (defScope s_answer_worth) := ⟨rfl, rfl, rfl, by decide +kernel, rfl, by decide +kernel, by decide +kernel⟩
abbrev s_answer_state : Stmt := top 61
theorem sc_answer_state : FnScope ["house"] ["house"] (defScope s_answer_state) := ⟨rfl, rfl, rfl, by decide +kernel, rfl, by decide +kernel, by decide +kernel⟩
structure DfF (K : PySem.W.Frag) (mg : Str → Option Value) (x : Str) (st : Stmt) (ps : List Str) (f : Addr) (fd : FuncData) : Prop where
 F : Fun K x x st f fd
 b : Binds K fd ps []
 m : mg x = some (.ref f)
structure DfM (K : PySem.W.Frag) (C : Addr) (x qual : Str) (st : Stmt) (ps : List Str) (f : Addr) (fd : FuncData) : Prop where
 F : Fun K x qual st f fd
 b : Binds K fd ps []
 mt : Meth K C x f
def KTup (K : PySem.W.Frag) (a : Addr) (xs : List V) : Prop :=
 ∃ (o : Obj) (its : Array Value) (n : Nat), K.lookup a = some o ∧ o.cls = .type "tuple" ∧ o.data = .seq its n ∧ its.size ≤ sizeLine ∧ Vals xs its.toList
theorem KTup.sq {K : PySem.W.Frag} {a : Addr} {xs : List V} (h : KTup K a xs) (H : Hp) : SqT K H a xs := .inr h
def KRanges (K : PySem.W.Frag) (a : Addr) (l : List (Int × Int)) : Prop := ∃ rs : List Addr, KTup K a (rs.map V.ref) ∧ Paired (fun r (p : Int × Int) => KTup K r [V.int p.1, V.int p.2]) rs l
def KTable (K : PySem.W.Frag) (a : Addr) (l : List (List (Int × Int))) : Prop := ∃ rs : List Addr, KTup K a (rs.map V.ref) ∧ Paired (fun r p => KRanges K r p) rs l
def numberRanges : List (List (Int × Int)) := [[], [(0, 7)], [(0, 9), (0, 7)], [(0, 9), (0, 1)], [(0, 9)], [(0, 9), (0, 9)], [(0, 9)], [], [], [(0, 9)], [(0, 9), (0, 9)], [(0, 7)], [(0, 9), (0, 9)], [], [], [(0, 9)], []]
structure Ads where
 f_is_pairing : Addr
 d_is_pairing : FuncData
 f_does_fit : Addr
 d_does_fit : FuncData
 f_count_pairings : Addr
 d_count_pairings : FuncData
 f_pairings_by_kind : Addr
 d_pairings_by_kind : FuncData
 f_pairings_of_look : Addr
 d_pairings_of_look : FuncData
 f_possible_kinds : Addr
 d_possible_kinds : FuncData
 f_kinds_with_some : Addr
 d_kinds_with_some : FuncData
 f_first_pairing : Addr
 d_first_pairing : FuncData
 f_least_kind : Addr
 d_least_kind : FuncData
 f_crowded_looks : Addr
 d_crowded_looks : FuncData
 f_kinds_together : Addr
 d_kinds_together : FuncData
 f_sizes_of_sets : Addr
 d_sizes_of_sets : FuncData
 f_ways_to_take : Addr
 d_ways_to_take : FuncData
 f_ways_to_take_behind : Addr
 d_ways_to_take_behind : FuncData
 f_ways_with_one_more : Addr
 d_ways_with_one_more : FuncData
 f_all_of : Addr
 d_all_of : FuncData
 f_set_of : Addr
 d_set_of : FuncData
 f_has_member : Addr
 d_has_member : FuncData
 f_members_of : Addr
 d_members_of : FuncData
 f_Line_init : Addr
 d_Line_init : FuncData
 f_Line_is_over : Addr
 d_Line_is_over : FuncData
 f_Line_take_number : Addr
 d_Line_take_number : FuncData
 f_Line_take_numbers : Addr
 d_Line_take_numbers : FuncData
 f_Line_take_rows : Addr
 d_Line_take_rows : FuncData
 f_House_init : Addr
 d_House_init : FuncData
 f_House_is_open : Addr
 d_House_is_open : FuncData
 f_House_has : Addr
 d_House_has : FuncData
 f_House_show : Addr
 d_House_show : FuncData
 f_answers : Addr
 d_answers : FuncData
 f_answer_next : Addr
 d_answer_next : FuncData
 f_are_numbers_within : Addr
 d_are_numbers_within : FuncData
 f_are_rows_within : Addr
 d_are_rows_within : FuncData
 f_is_row_within : Addr
 d_is_row_within : FuncData
 f_is_within : Addr
 d_is_within : FuncData
 f_answer_call : Addr
 d_answer_call : FuncData
 f_answer_question : Addr
 d_answer_question : FuncData
 f_open_house : Addr
 d_open_house : FuncData
 f_kinds_of_sort : Addr
 d_kinds_of_sort : FuncData
 f_tell_outcomes : Addr
 d_tell_outcomes : FuncData
 f_use_look : Addr
 d_use_look : FuncData
 f_offer_look : Addr
 d_offer_look : FuncData
 f_may_be_offered : Addr
 d_may_be_offered : FuncData
 f_dearer_price : Addr
 d_dearer_price : FuncData
 f_tell_kind : Addr
 d_tell_kind : FuncData
 f_ask_kind : Addr
 d_ask_kind : FuncData
 f_answer_possible : Addr
 d_answer_possible : FuncData
 f_answer_certain : Addr
 d_answer_certain : FuncData
 f_answer_count : Addr
 d_answer_count : FuncData
 f_answer_left : Addr
 d_answer_left : FuncData
 f_answer_why : Addr
 d_answer_why : FuncData
 f_answer_try : Addr
 d_answer_try : FuncData
 f_most_of_one_outcome : Addr
 d_most_of_one_outcome : FuncData
 f_answer_odds : Addr
 d_answer_odds : FuncData
 f_lowest_terms : Addr
 d_lowest_terms : FuncData
 f_answer_fits : Addr
 d_answer_fits : FuncData
 f_answer_first : Addr
 d_answer_first : FuncData
 f_answer_worth : Addr
 d_answer_worth : FuncData
 f_answer_state : Addr
 d_answer_state : FuncData
 C_Line : Addr
 C_House : Addr
 a_NUMBER_RANGES : Addr
 a_ROW_RANGES : Addr
structure Txt (K : PySem.W.Frag) (mg : Str → Option Value) (a : Ads) : Prop where
 cl_Line : Cls K a.C_Line
 mk_Line : Mk K a.C_Line a.f_Line_init
 c_Line : mg "Line" = some (.ref a.C_Line)
 n_Line_calls : NoAttr K a.C_Line "calls"
 n_Line_place : NoAttr K a.C_Line "place"
 cl_House : Cls K a.C_House
 mk_House : Mk K a.C_House a.f_House_init
 c_House : mg "House" = some (.ref a.C_House)
 n_House_truth : NoAttr K a.C_House "truth"
 n_House_look_sorts : NoAttr K a.C_House "look_sorts"
 n_House_kind_sorts : NoAttr K a.C_House "kind_sorts"
 n_House_prices : NoAttr K a.C_House "prices"
 n_House_outcomes : NoAttr K a.C_House "outcomes"
 n_House_left : NoAttr K a.C_House "left"
 n_House_shown : NoAttr K a.C_House "shown"
 is_pairing : DfF K mg "is_pairing" s_is_pairing ["row"] a.f_is_pairing a.d_is_pairing
 does_fit : DfF K mg "does_fit" s_does_fit ["left", "row"] a.f_does_fit a.d_does_fit
 count_pairings : DfF K mg "count_pairings" s_count_pairings ["left"] a.f_count_pairings a.d_count_pairings
 pairings_by_kind : DfF K mg "pairings_by_kind" s_pairings_by_kind ["left"] a.f_pairings_by_kind a.d_pairings_by_kind
 pairings_of_look : DfF K mg "pairings_of_look" s_pairings_of_look ["kinds", "before", "behind", "how_many"] a.f_pairings_of_look a.d_pairings_of_look
 possible_kinds : DfF K mg "possible_kinds" s_possible_kinds ["left"] a.f_possible_kinds a.d_possible_kinds
 kinds_with_some : DfF K mg "kinds_with_some" s_kinds_with_some ["numbers"] a.f_kinds_with_some a.d_kinds_with_some
 first_pairing : DfF K mg "first_pairing" s_first_pairing ["left"] a.f_first_pairing a.d_first_pairing
 least_kind : DfF K mg "least_kind" s_least_kind ["kinds", "free", "behind"] a.f_least_kind a.d_least_kind
 crowded_looks : DfF K mg "crowded_looks" s_crowded_looks ["left", "look", "kind"] a.f_crowded_looks a.d_crowded_looks
 kinds_together : DfF K mg "kinds_together" s_kinds_together ["left"] a.f_kinds_together a.d_kinds_together
 sizes_of_sets : DfF K mg "sizes_of_sets" s_sizes_of_sets ["how_many"] a.f_sizes_of_sets a.d_sizes_of_sets
 ways_to_take : DfF K mg "ways_to_take" s_ways_to_take ["left"] a.f_ways_to_take a.d_ways_to_take
 ways_to_take_behind : DfF K mg "ways_to_take_behind" s_ways_to_take_behind ["left"] a.f_ways_to_take_behind a.d_ways_to_take_behind
 ways_with_one_more : DfF K mg "ways_with_one_more" s_ways_with_one_more ["ways", "kinds"] a.f_ways_with_one_more a.d_ways_with_one_more
 all_of : DfF K mg "all_of" s_all_of ["how_many"] a.f_all_of a.d_all_of
 set_of : DfF K mg "set_of" s_set_of ["member"] a.f_set_of a.d_set_of
 has_member : DfF K mg "has_member" s_has_member ["these", "member"] a.f_has_member a.d_has_member
 members_of : DfF K mg "members_of" s_members_of ["these", "how_many"] a.f_members_of a.d_members_of
 Line_init : DfM K a.C_Line "__init__" "Line.__init__" s_Line_init ["self", "calls"] a.f_Line_init a.d_Line_init
 Line_is_over : DfM K a.C_Line "is_over" "Line.is_over" s_Line_is_over ["self"] a.f_Line_is_over a.d_Line_is_over
 Line_take_number : DfM K a.C_Line "take_number" "Line.take_number" s_Line_take_number ["self"] a.f_Line_take_number a.d_Line_take_number
 Line_take_numbers : DfM K a.C_Line "take_numbers" "Line.take_numbers" s_Line_take_numbers ["self", "how_many"] a.f_Line_take_numbers a.d_Line_take_numbers
 Line_take_rows : DfM K a.C_Line "take_rows" "Line.take_rows" s_Line_take_rows ["self", "how_many"] a.f_Line_take_rows a.d_Line_take_rows
 House_init : DfM K a.C_House "__init__" "House.__init__" s_House_init ["self"] a.f_House_init a.d_House_init
 House_is_open : DfM K a.C_House "is_open" "House.is_open" s_House_is_open ["self"] a.f_House_is_open a.d_House_is_open
 House_has : DfM K a.C_House "has" "House.has" s_House_has ["self", "look_or_kind"] a.f_House_has a.d_House_has
 House_show : DfM K a.C_House "show" "House.show" s_House_show ["self", "look", "staying"] a.f_House_show a.d_House_show
 answers : DfF K mg "answers" s_answers ["calls"] a.f_answers a.d_answers
 answer_next : DfF K mg "answer_next" s_answer_next ["house", "line"] a.f_answer_next a.d_answer_next
 are_numbers_within : DfF K mg "are_numbers_within" s_are_numbers_within ["numbers", "ranges"] a.f_are_numbers_within a.d_are_numbers_within
 are_rows_within : DfF K mg "are_rows_within" s_are_rows_within ["rows", "ranges"] a.f_are_rows_within a.d_are_rows_within
 is_row_within : DfF K mg "is_row_within" s_is_row_within ["row", "limits"] a.f_is_row_within a.d_is_row_within
 is_within : DfF K mg "is_within" s_is_within ["number", "limits"] a.f_is_within a.d_is_within
 answer_call : DfF K mg "answer_call" s_answer_call ["house", "place", "numbers", "rows"] a.f_answer_call a.d_answer_call
 answer_question : DfF K mg "answer_question" s_answer_question ["house", "place", "numbers", "rows"] a.f_answer_question a.d_answer_question
 open_house : DfF K mg "open_house" s_open_house ["house", "truth", "look_sorts", "kind_sorts", "prices"] a.f_open_house a.d_open_house
 kinds_of_sort : DfF K mg "kinds_of_sort" s_kinds_of_sort ["sort", "kind_sorts"] a.f_kinds_of_sort a.d_kinds_of_sort
 tell_outcomes : DfF K mg "tell_outcomes" s_tell_outcomes ["house", "situation", "row"] a.f_tell_outcomes a.d_tell_outcomes
 use_look : DfF K mg "use_look" s_use_look ["house", "look", "situation"] a.f_use_look a.d_use_look
 offer_look : DfF K mg "offer_look" s_offer_look ["house", "look", "dear"] a.f_offer_look a.d_offer_look
 may_be_offered : DfF K mg "may_be_offered" s_may_be_offered ["price", "offered"] a.f_may_be_offered a.d_may_be_offered
 dearer_price : DfF K mg "dearer_price" s_dearer_price ["price"] a.f_dearer_price a.d_dearer_price
 tell_kind : DfF K mg "tell_kind" s_tell_kind ["house", "look"] a.f_tell_kind a.d_tell_kind
 ask_kind : DfF K mg "ask_kind" s_ask_kind ["house", "look", "kind"] a.f_ask_kind a.d_ask_kind
 answer_possible : DfF K mg "answer_possible" s_answer_possible ["house", "look"] a.f_answer_possible a.d_answer_possible
 answer_certain : DfF K mg "answer_certain" s_answer_certain ["house"] a.f_answer_certain a.d_answer_certain
 answer_count : DfF K mg "answer_count" s_answer_count ["house"] a.f_answer_count a.d_answer_count
 answer_left : DfF K mg "answer_left" s_answer_left ["house", "look"] a.f_answer_left a.d_answer_left
 answer_why : DfF K mg "answer_why" s_answer_why ["house", "look", "kind"] a.f_answer_why a.d_answer_why
 answer_try : DfF K mg "answer_try" s_answer_try ["house", "situation"] a.f_answer_try a.d_answer_try
 most_of_one_outcome : DfF K mg "most_of_one_outcome" s_most_of_one_outcome ["numbers", "row"] a.f_most_of_one_outcome a.d_most_of_one_outcome
 answer_odds : DfF K mg "answer_odds" s_answer_odds ["house", "look", "kind"] a.f_answer_odds a.d_answer_odds
 lowest_terms : DfF K mg "lowest_terms" s_lowest_terms ["part", "whole"] a.f_lowest_terms a.d_lowest_terms
 answer_fits : DfF K mg "answer_fits" s_answer_fits ["house", "row"] a.f_answer_fits a.d_answer_fits
 answer_first : DfF K mg "answer_first" s_answer_first ["house"] a.f_answer_first a.d_answer_first
 answer_worth : DfF K mg "answer_worth" s_answer_worth ["house", "look"] a.f_answer_worth a.d_answer_worth
 answer_state : DfF K mg "answer_state" s_answer_state ["house"] a.f_answer_state a.d_answer_state
 g_OUT_OF_RANGE : ∃ t, mg "OUT_OF_RANGE" = some (.int (-1) t)
 g_NOT_OPEN : ∃ t, mg "NOT_OPEN" = some (.int (-2) t)
 g_OPEN_ALREADY : ∃ t, mg "OPEN_ALREADY" = some (.int (-3) t)
 g_WRONG_ROWS : ∃ t, mg "WRONG_ROWS" = some (.int (-4) t)
 g_WRONG_SITUATION : ∃ t, mg "WRONG_SITUATION" = some (.int (-5) t)
 g_NO_SUCH : ∃ t, mg "NO_SUCH" = some (.int (-6) t)
 g_LONGEST_ROW : ∃ t, mg "LONGEST_ROW" = some (.int (10) t)
 g_NUMBER_RANGES : mg "NUMBER_RANGES" = some (.ref a.a_NUMBER_RANGES)
 g_ROW_RANGES : mg "ROW_RANGES" = some (.ref a.a_ROW_RANGES)
 b_len : mg "len" = none
 b_range : mg "range" = none
 b_zip : mg "zip" = none
 b_enumerate : mg "enumerate" = none
 b_all : mg "all" = none
 b_sorted : mg "sorted" = none
 b_list : mg "list" = none
 b_reversed : mg "reversed" = none
 b_min : mg "min" = none
 b_max : mg "max" = none
 b_sum : mg "sum" = none
 t_NUMBER_RANGES : KTable K a.a_NUMBER_RANGES numberRanges
 t_ROW_RANGES : ∃ (r0 r1 r2 : Addr), KDict K a.a_ROW_RANGES [(0, .ref r0), (1, .ref r1), (13, .ref r2)] ∧ KRanges K r0 [(0, 9), (0, 5), (0, 5), (1, 1000000)] ∧ KRanges K r1 [(0, 9)] ∧ KRanges K r2 [(0, 9)]
theorem boot_all : bootBuiltins "all" = some (.builtin "all") := by decide +kernel
theorem boot_sorted : bootBuiltins "sorted" = some (.builtin "sorted") := by decide +kernel
theorem boot_min : bootBuiltins "min" = some (.builtin "min") := by decide +kernel
theorem boot_max : bootBuiltins "max" = some (.builtin "max") := by decide +kernel
theorem boot_sum : bootBuiltins "sum" = some (.builtin "sum") := by decide +kernel
theorem boot_list : bootBuiltins "list" = some (.type "list") := by decide +kernel
structure LcP (H1 : Hp) (D : Addr) (P : Nat → Bool) (F : Nat → V) (i : Nat) (H : Hp) : Prop where
 new : H1 D = none
 same : Same H1 H
 at_ : H D = some (.lst (((List.range i).filter P).map F))
theorem LcP.start {H1 : Hp} {D : Addr} {P : Nat → Bool} {F : Nat → V} (n : H1 D = none) : LcP H1 D P F 0 (upd H1 D (.lst [])) :=
 ⟨n, fun b o e => by rw [upd_ne (ne_of_none e n)]; exact e, upd_same⟩
theorem LcP.no {H1 H H3 : Hp} {D : Addr} {P : Nat → Bool} {F : Nat → V} {i : Nat} (p : LcP H1 D P F i H) (s : Same H H3) (h : P i = false) : LcP H1 D P F (i + 1) H3 :=
 ⟨p.new, p.same.trans s, by rw [List.range_succ, List.filter_append]; simp [h]; exact s _ _ p.at_⟩
theorem LcP.yes {H1 H H4 : Hp} {D : Addr} {P : Nat → Bool} {F : Nat → V} {i : Nat} {y : V} (p : LcP H1 D P F i H) (s : Same H H4) (h : P i = true) (e : y = F i) (hi : i ≤ 100000) :
  ∃ acc, H4 D = some (.lst acc) ∧ acc.length < sizeLine ∧ LcP H1 D P F (i + 1) (upd H4 D (.lst (acc ++ [y]))) := by
 refine ⟨_, s _ _ p.at_, ?_, p.new, fun b o q => ?_, ?_⟩
 ·rw [List.length_map]
  refine Nat.lt_of_le_of_lt (List.length_filter_le _ _) ?_
  rw [List.length_range]
  exact Nat.lt_of_le_of_lt hi (by rw [sizeLine_eq]; decide)
 ·rw [upd_ne (ne_of_none q p.new)]
  exact s _ _ (p.same _ _ q)
 ·rw [upd_same, List.range_succ, List.filter_append, List.map_append, e]
  simp [h]
theorem lcL {K : PySem.W.Frag} {a : Addr} {xs : List V} {g : TG} {tt : TT} {te : TE} {vs : List Nat} {σ : L2.St} {H1 : Hp} {D : Addr} {Qd : Hp → Prop} (P : Nat → Bool) (F : Nat → V) (n : H1 D = none) (hl : SqL K H1 a xs)
  (hs : ∀ i x H, xs[i]? = some x → LcP H1 D P F i H → g x (wipe σ vs) H fun σ2 H2 => wipe σ2 vs = wipe σ vs ∧ tt σ2 H2 fun b H3 =>
   if b = true then te σ2 H3 fun y H4 => ∃ acc, H4 D = some (.lst acc) ∧ acc.length < sizeLine ∧ LcP H1 D P F (i + 1) (upd H4 D (.lst (acc ++ [y]))) else LcP H1 D P F (i + 1) H3) (hd : ∀ H, Same H1 H → H D = some (.lst (((List.range xs.length).filter P).map F)) → Qd H) :
  ∃ W : Nat → Nat → Hp → Prop, (∃ m, W 0 m (upd H1 D (.lst []))) ∧ ∀ i m H, W i m H →
   ((Itl K a).stop i H ∧ Qd H) ∨ ((Itl K a).go i H ∧ ∃ Nx : Hp → Prop, (∀ H', Nx H' → ∃ m', m' < m ∧ W (i + 1) m' H') ∧ ∀ x H', (Itl K a).yld i H x H' → g x (wipe σ vs) H' fun σ2 H2 => wipe σ2 vs = wipe σ vs ∧ tt σ2 H2 fun b H3 =>
    if b = true then te σ2 H3 fun y H4 => ∃ acc, H4 D = some (.lst acc) ∧ acc.length < sizeLine ∧ Nx (upd H4 D (.lst (acc ++ [y]))) else Nx H3) :=
 lc_list (LcP H1 D P F) (.start n) (fun i H _ p => p.same.seq hl) hs fun H p => hd H p.same p.at_
theorem Same.seqT {K : PySem.W.Frag} {H H' : Hp} {a : Addr} {xs : List V} (e : Same H H') (h : SqT K H a xs) : SqT K H' a xs := by
 rcases h with (h | ⟨o, h⟩) | h
 ·exact .inl (.inl (e _ _ h))
 ·exact .inl (.inr ⟨o, e _ _ h⟩)
 ·exact .inr h
theorem Same.new {H : Hp} {T : Addr} {o : HO} (n : H T = none) : Same H (upd H T o) := fun b u e => by rw [upd_ne (ne_of_none e n)]; exact e
theorem lcT {K : PySem.W.Frag} {a : Addr} {xs : List V} {g : TG} {tt : TT} {te : TE} {vs : List Nat} {σ : L2.St} {H1 : Hp} {D : Addr} {Qd : Hp → Prop} (P : Nat → Bool) (F : Nat → V) (n : H1 D = none) (hl : SqT K H1 a xs)
  (hs : ∀ i x H, xs[i]? = some x → LcP H1 D P F i H → g x (wipe σ vs) H fun σ2 H2 => wipe σ2 vs = wipe σ vs ∧ tt σ2 H2 fun b H3 =>
   if b = true then te σ2 H3 fun y H4 => ∃ acc, H4 D = some (.lst acc) ∧ acc.length < sizeLine ∧ LcP H1 D P F (i + 1) (upd H4 D (.lst (acc ++ [y]))) else LcP H1 D P F (i + 1) H3) (hd : ∀ H, Same H1 H → H D = some (.lst (((List.range xs.length).filter P).map F)) → Qd H) :
  ∃ W : Nat → Nat → Hp → Prop, (∃ m, W 0 m (upd H1 D (.lst []))) ∧ ∀ i m H, W i m H →
   ((Itt K a).stop i H ∧ Qd H) ∨ ((Itt K a).go i H ∧ ∃ Nx : Hp → Prop, (∀ H', Nx H' → ∃ m', m' < m ∧ W (i + 1) m' H') ∧ ∀ x H', (Itt K a).yld i H x H' → g x (wipe σ vs) H' fun σ2 H2 => wipe σ2 vs = wipe σ vs ∧ tt σ2 H2 fun b H3 =>
    if b = true then te σ2 H3 fun y H4 => ∃ acc, H4 D = some (.lst acc) ∧ acc.length < sizeLine ∧ Nx (upd H4 D (.lst (acc ++ [y]))) else Nx H3) :=
 lc_tup (LcP H1 D P F) (.start n) (fun i H _ p => Same.seqT p.same hl) hs fun H p => hd H p.same p.at_
theorem lcE {K : PySem.W.Frag} {a : Addr} {xs : List V} {g : TG} {tt : TT} {te : TE} {vs : List Nat} {σ : L2.St} {H1 : Hp} {D : Addr} {Qd : Hp → Prop} (P : Nat → Bool) (F : Nat → V) (n : H1 D = none) (hl : SqL K H1 a xs)
  (hs : ∀ i x H T, xs[i]? = some x → LcP H1 D P F i H → H T = some (.tup [.int (i : Nat), x]) → g (.ref T) (wipe σ vs) H fun σ2 H2 => wipe σ2 vs = wipe σ vs ∧ tt σ2 H2 fun b H3 =>
   if b = true then te σ2 H3 fun y H4 => ∃ acc, H4 D = some (.lst acc) ∧ acc.length < sizeLine ∧ LcP H1 D P F (i + 1) (upd H4 D (.lst (acc ++ [y]))) else LcP H1 D P F (i + 1) H3) (hd : ∀ H, Same H1 H → H D = some (.lst (((List.range xs.length).filter P).map F)) → Qd H) :
  ∃ W : Nat → Nat → Hp → Prop, (∃ m, W 0 m (upd H1 D (.lst []))) ∧ ∀ i m H, W i m H →
   ((Ite K a).stop i H ∧ Qd H) ∨ ((Ite K a).go i H ∧ ∃ Nx : Hp → Prop, (∀ H', Nx H' → ∃ m', m' < m ∧ W (i + 1) m' H') ∧ ∀ x H', (Ite K a).yld i H x H' → g x (wipe σ vs) H' fun σ2 H2 => wipe σ2 vs = wipe σ vs ∧ tt σ2 H2 fun b H3 =>
    if b = true then te σ2 H3 fun y H4 => ∃ acc, H4 D = some (.lst acc) ∧ acc.length < sizeLine ∧ Nx (upd H4 D (.lst (acc ++ [y]))) else Nx H3) := by
 refine ⟨fun i m H => m = xs.length - i ∧ i ≤ xs.length ∧ LcP H1 D P F i H, ⟨xs.length, by simp, Nat.zero_le _, .start n⟩, ?_⟩
 rintro i m H ⟨rfl, hi, p⟩
 have q := p.same.seq hl
 by_cases hlt : i < xs.length
 ·refine .inr ⟨⟨xs, xs[i], q, by simp [hlt]⟩, LcP H1 D P F (i + 1), fun H' p' => ⟨xs.length - (i + 1), by omega, rfl, hlt, p'⟩, fun x H' y => ?_⟩
  obtain ⟨T, x', e, hT, e2, y⟩ := y
  subst e e2
  exact hs i x' _ T (y xs q) ⟨p.new, p.same.trans (Same.new hT), Same.new hT _ _ p.at_⟩ upd_same
 ·have e : i = xs.length := by omega
  subst e
  exact .inl ⟨⟨xs, q, Nat.le_refl _⟩, hd H p.same p.at_⟩
theorem lcZT {K : PySem.W.Frag} {a b : Addr} {xs ys : List V} {g : TG} {tt : TT} {te : TE} {vs : List Nat} {σ : L2.St} {H1 : Hp} {D : Addr} {Qd : Hp → Prop} (P : Nat → Bool) (F : Nat → V) (n : H1 D = none) (hl : SqL K H1 a xs) (hl2 : SqT K H1 b ys)
  (hs : ∀ i x y H T, xs[i]? = some x → ys[i]? = some y → LcP H1 D P F i H → H T = some (.tup [x, y]) → g (.ref T) (wipe σ vs) H fun σ2 H2 => wipe σ2 vs = wipe σ vs ∧ tt σ2 H2 fun b H3 =>
   if b = true then te σ2 H3 fun y H4 => ∃ acc, H4 D = some (.lst acc) ∧ acc.length < sizeLine ∧ LcP H1 D P F (i + 1) (upd H4 D (.lst (acc ++ [y]))) else LcP H1 D P F (i + 1) H3) (hd : ∀ H, Same H1 H → H D = some (.lst (((List.range (min xs.length ys.length)).filter P).map F)) → Qd H) :
  ∃ W : Nat → Nat → Hp → Prop, (∃ m, W 0 m (upd H1 D (.lst []))) ∧ ∀ i m H, W i m H →
   ((Itzt K a b).stop i H ∧ Qd H) ∨ ((Itzt K a b).go i H ∧ ∃ Nx : Hp → Prop, (∀ H', Nx H' → ∃ m', m' < m ∧ W (i + 1) m' H') ∧ ∀ x H', (Itzt K a b).yld i H x H' → g x (wipe σ vs) H' fun σ2 H2 => wipe σ2 vs = wipe σ vs ∧ tt σ2 H2 fun b H3 =>
    if b = true then te σ2 H3 fun y H4 => ∃ acc, H4 D = some (.lst acc) ∧ acc.length < sizeLine ∧ Nx (upd H4 D (.lst (acc ++ [y]))) else Nx H3) := by
 refine ⟨fun i m H => m = min xs.length ys.length - i ∧ i ≤ min xs.length ys.length ∧ LcP H1 D P F i H, ⟨min xs.length ys.length, by simp, Nat.zero_le _, .start n⟩, ?_⟩
 rintro i m H ⟨rfl, hi, p⟩
 have q := p.same.seq hl
 have q2 := Same.seqT p.same hl2
 by_cases hlt : i < min xs.length ys.length
 ·have h1 : i < xs.length := Nat.lt_of_lt_of_le hlt (Nat.min_le_left _ _)
  have h2 : i < ys.length := Nat.lt_of_lt_of_le hlt (Nat.min_le_right _ _)
  refine .inr ⟨⟨xs, ys, xs[i], ys[i], q, q2, by simp [h1], by simp [h2]⟩, LcP H1 D P F (i + 1), fun H' p' => ⟨min xs.length ys.length - (i + 1), by omega, rfl, hlt, p'⟩, fun x H' y => ?_⟩
  obtain ⟨T, x', y', e, hT, e2, z1, z2⟩ := y
  subst e e2
  exact hs i x' y' _ T (z1 xs q) (z2 ys q2) ⟨p.new, p.same.trans (Same.new hT), Same.new hT _ _ p.at_⟩ upd_same
 ·have e : i = min xs.length ys.length := by omega
  subst e
  exact .inl ⟨⟨xs, ys, q, q2, by omega⟩, hd H p.same p.at_⟩
theorem range_map_get {α β : Type} (f : α → β) (g : Nat → β) (xs : List α) (h : ∀ i x, xs[i]? = some x → g i = f x) : (List.range xs.length).map g = xs.map f := by
 apply List.ext_getElem?
 intro i
 rw [List.getElem?_map, List.getElem?_map]
 by_cases hi : i < xs.length
 ·rw [List.getElem?_range hi, List.getElem?_eq_getElem hi]
  simp [h i xs[i] (List.getElem?_eq_getElem hi)]
 ·rw [List.getElem?_eq_none_iff.mpr (by simpa using hi), List.getElem?_eq_none_iff.mpr (by simpa using hi)]; rfl
theorem range_filter_map_get {α β : Type} (p : α → Bool) (f : α → β) (P : Nat → Bool) (g : Nat → β) : ∀ (xs : List α) (_ : ∀ i x, xs[i]? = some x → P i = p x ∧ g i = f x), ((List.range xs.length).filter P).map g = (xs.filter p).map f := by
 intro xs
 induction xs generalizing P g with
 | nil => intro _; rfl
 | cons x xs ih =>
  intro h
  have h0 := h 0 x rfl
  have ih' := ih (P := fun i => P (i + 1)) (g := fun i => g (i + 1)) fun i y e => h (i + 1) y (by simpa using e)
  rw [List.length_cons, List.range_succ_eq_map, List.filter_cons, List.filter_cons, List.filter_map]
  have e1 : List.map g (List.map Nat.succ (List.filter (P ∘ Nat.succ) (List.range xs.length))) = (xs.filter p).map f := by
   rw [List.map_map]
   exact ih'
  rw [h0.1]
  cases p x <;> simp [e1, h0.2]
end UK
set_option Elab.async false
set_option linter.all false
set_option maxRecDepth 100000
set_option maxHeartbeats 4000000
namespace UK
open PySem PySem.Spec PyProof.Rows L2
variable {P : Program} {w : World} {K : PySem.W.Frag} {mg : Str → Option Value} {base : Heap} {a : Ads}
theorem iteC {A B : Prop} {c : Bool} (h1 : c = true → A) (h2 : c = false → B) : if c = true then A else B := by
 cases c
 ·exact iteF (h2 rfl)
 ·exact iteT (h1 rfl)
theorem line1M {n : Nat} (h : n ≤ 1000000) : n < sizeLine := Nat.lt_of_le_of_lt h (by rw [sizeLine_eq]; decide)
theorem map_at {α β : Type} {f : α → β} {l : List α} {i : Nat} {y : β} (h : (l.map f)[i]? = some y) : ∃ x, l[i]? = some x ∧ y = f x := by
 rw [List.getElem?_map] at h
 cases e : l[i]? with
 | none => rw [e] at h; cases h
 | some x => rw [e] at h; exact ⟨x, rfl, (Option.some.inj h).symm⟩
theorem at_map {α β : Type} {f : α → β} {l : List α} {i : Nat} {x : α} (h : l[i]? = some x) : (l.map f)[i]? = some (f x) := by rw [List.getElem?_map, h]; rfl
theorem filter_tt {α : Type} (l : List α) : l.filter (fun _ => true) = l := List.filter_eq_self.mpr fun _ _ => rfl
theorem tYes_if {σ : L2.St} {H : Hp} {A B : Hp → Prop} (h : A H) : tYes σ H fun b H3 => if b = true then A H3 else B H3 := by
 show if true = true then A H else B H
 exact iteT h
def within (p : Int × Int) (x : Int) : Bool := decide (p.1 ≤ x) && decide (x ≤ p.2)
def sp_is_within (K : PySem.W.Frag) : Sp := fun vs H Q _ => ∃ (x lo hi : Int) (p : Addr), vs = [.int x, .ref p] ∧ SqT K H p [.int lo, .int hi] ∧ Q (.bl (within (lo, hi) x)) H
theorem ok_is_within (T : Txt K mg a) : FnOk P w K mg base CX0 1 a.f_is_within a.d_is_within ["number", "limits"] (sp_is_within K) := by
 refine T.is_within.F.ok sc_is_within (fun vs H Q E h => ?_) (fun cdv A outer s H vs Q E hr h => ?_)
 ·obtain ⟨x, lo, hi, p, rfl, _⟩ := h; rfl
 ·obtain ⟨x, lo, hi, p, rfl, hS, k⟩ := h
  refine ⟨_, (pss_one (ps_ret (pe_and (pe_cmpR op_le (pe_ix (ixk_tup K rfl) (pv 1) pe_int (fun _ _ => rfl)) (pv 0) (nomark _)) (pe_one (pe_cmpR op_le (pv 0) (pe_ix (ixk_tup K rfl) (pv 1) pe_int (fun _ _ => rfl)) (nomark _)))))), ?_⟩
  refine ⟨_, rfl, p, _, _, _, rfl, rfl, hS, rfl, _, rfl, _, _, rfl, rfl, _, rfl, iteC (fun h1 => ?_) (fun h1 => ?_)⟩
  ·refine ⟨_, rfl, _, rfl, p, _, _, _, rfl, rfl, hS, rfl, _, _, rfl, rfl, ?_⟩
   have e : within (lo, hi) x = decide (x ≤ hi) := by unfold within; rw [h1]; rfl
   rw [e] at k; exact k
  ·have e : within (lo, hi) x = false := by unfold within; rw [h1]; rfl
   rw [e] at k; exact k
def rowWithin (p : Int × Int) (ns : List Int) : Bool := decide (ns.length ≤ 10) && ns.all (within p)
def sp_is_row_within (K : PySem.W.Frag) : Sp := fun vs H Q _ => ∃ (ns : List Int) (lo hi : Int) (r p : Addr), vs = [.ref r, .ref p] ∧ SqL K H r (ns.map V.int) ∧ SqT K H p [.int lo, .int hi] ∧ ∀ H', Same H H' → Q (.bl (rowWithin (lo, hi) ns)) H'
theorem ok_is_row_within (T : Txt K mg a) : FnOk P w K mg base CX0 2 a.f_is_row_within a.d_is_row_within ["row", "limits"] (sp_is_row_within K) := by
 refine T.is_row_within.F.ok sc_is_row_within (fun vs H Q E h => ?_) (fun cdv A outer s H vs Q E hr h => ?_)
 ·obtain ⟨ns, lo, hi, r, p, rfl, _⟩ := h; rfl
 ·obtain ⟨ns, lo, hi, r, p, rfl, hR, hS, k⟩ := h
  refine ⟨_, (pss_one (ps_ret (pe_and (pe_cmpR op_le (pe_callB (lenk K rfl) rfl T.b_len boot_len (pa_cons (pv 0) pa_nil)) (pe_gint rfl T.g_LONGEST_ROW) (nomark _)) (pe_one (pe_callB (allk K rfl rfl) rfl T.b_all boot_all (pa_cons (pe_lc rfl sc_is_row_within.nd (pi_list (pv 0)) (blkOk_by (own := [("number", 2)]) (by kernel_rfl)) (fun _ _ _ _ _ => (pg_name (i := 2) sc_is_row_within.nd rfl (.inl rfl))) (fun _ _ _ _ _ => pts_nil) (fun _ _ _ _ _ => (pe_call (ok_is_within T) (hr.mono (by decide)) rfl T.is_within.m T.is_within.F.kp T.is_within.b .nil pass0 (pa_cons (pv 2) (pa_cons (pv 1) pa_nil))))) pa_nil)))))), ?_⟩
  refine ⟨_, rfl, r, _, rfl, .inl hR, _, _, rfl, rfl, _, rfl, iteC (fun h1 => ?_) (fun h1 => ?_)⟩
  ·have hl : ns.length ≤ 10 := by have := of_decide_eq_true h1; rw [List.length_map] at this; omega
   refine ⟨_, rfl, r, rfl, ⟨_, hR⟩, fun D hD => lcL (fun _ => true) (fun i => V.bl (within (lo, hi) (ns.getD i 0))) hD hR ?_ ?_⟩
   ·intro i y H' hy p'
    obtain ⟨x, hx, rfl⟩ := map_at hy
    refine ⟨rfl, tYes_if ?_⟩
    refine ⟨_, rfl, _, rfl, x, lo, hi, p, rfl, Same.seqT p'.same hS, p'.yes (Same.refl _) rfl ?_ ?_⟩
    ·show V.bl _ = V.bl _; rw [List.getD_eq_getElem?_getD, hx]; rfl
    ·have := (List.getElem?_eq_some_iff.mp hx).1; omega
   ·intro H' hs hd
    have e : ((List.range (ns.map V.int).length).filter fun _ => true).map (fun i => V.bl (within (lo, hi) (ns.getD i 0))) = (ns.map (within (lo, hi))).map V.bl := by
     rw [filter_tt, List.length_map, List.map_map]
     refine range_map_get _ _ ns fun i x hx => ?_
     rw [List.getD_eq_getElem?_getD, hx]; rfl
    rw [e] at hd
    refine ⟨D, _, rfl, .of hd, ?_⟩
    have e2 : rowWithin (lo, hi) ns = (ns.map (within (lo, hi))).all id := by unfold rowWithin; rw [List.all_map, decide_eq_true hl]; rfl
    rw [← e2]; exact k H' hs
  ·have e : rowWithin (lo, hi) ns = false := by
    unfold rowWithin
    have : ¬ ns.length ≤ 10 := by have := of_decide_eq_false h1; rw [List.length_map] at this; omega
    rw [decide_eq_false this]; rfl
   have := k H (Same.refl _)
   rw [e] at this; exact this
theorem KRanges.at {K : PySem.W.Frag} {b : Addr} {rg : List (Int × Int)} (h : KRanges K b rg) : ∃ rs : List Addr, rs.length = rg.length ∧ (∀ H, SqT K H b (rs.map V.ref)) ∧ ∀ (i : Nat) (r : Addr), rs[i]? = some r → ∃ p, rg[i]? = some p ∧ ∀ H, SqT K H r [V.int p.1, V.int p.2] := by
 obtain ⟨rs, h1, h2⟩ := h
 refine ⟨rs, Paired.length h2, fun H => h1.sq H, fun i r e => ?_⟩
 obtain ⟨p, e2, h3⟩ := paired_get h2 e
 exact ⟨p, e2, fun H => h3.sq H⟩
theorem zip_at {α β : Type} {l : List α} {m : List β} {i : Nat} {x : α} {y : β} (h1 : l[i]? = some x) (h2 : m[i]? = some y) : (l.zip m)[i]? = some (x, y) := by
 rw [List.getElem?_zip_eq_some]; exact ⟨h1, h2⟩
def sp_are_numbers_within (K : PySem.W.Frag) : Sp := fun vs H Q _ => ∃ (ns : List Int) (rg : List (Int × Int)) (x b : Addr), vs = [.ref x, .ref b] ∧ SqL K H x (ns.map V.int) ∧ KRanges K b rg ∧ ns.length ≤ 1000 ∧
 ∀ H', Same H H' → Q (.bl ((ns.zip rg).all fun q => within q.2 q.1)) H'
theorem ok_are_numbers_within (T : Txt K mg a) : FnOk P w K mg base CX0 2 a.f_are_numbers_within a.d_are_numbers_within ["numbers", "ranges"] (sp_are_numbers_within K) := by
 refine T.are_numbers_within.F.ok sc_are_numbers_within (fun vs H Q E h => ?_) (fun cdv A outer s H vs Q E hr h => ?_)
 ·obtain ⟨ns, rg, x, b, rfl, _⟩ := h; rfl
 ·obtain ⟨ns, rg, x, b, rfl, hN, hG, hl, k⟩ := h
  obtain ⟨rs, hlen, hR, hE⟩ := hG.at
  refine ⟨_, (pss_one (ps_ret (pe_callB (allk K rfl rfl) rfl T.b_all boot_all (pa_cons (pe_lc rfl sc_are_numbers_within.nd (pi_zipT rfl T.b_zip (pa_cons (pv 0) (pa_cons (pv 1) pa_nil))) (blkOk_by (own := [("number", 2), ("limits", 3)]) (by kernel_rfl)) (fun _ _ _ _ _ => (tupk K rfl (n := 2) rfl (pgs_cons (pg_name (i := 2) sc_are_numbers_within.nd rfl (.inl rfl)) (pgs_cons (pg_name (i := 3) sc_are_numbers_within.nd rfl (.inl rfl)) pgs_nil)))) (fun _ _ _ _ _ => pts_nil) (fun _ _ _ _ _ => (pe_call (ok_is_within T) (hr.mono (by decide)) rfl T.is_within.m T.is_within.F.kp T.is_within.b .nil pass0 (pa_cons (pv 2) (pa_cons (pv 3) pa_nil))))) pa_nil)))), ?_⟩
  refine ⟨_, rfl, _, rfl, x, b, _, _, rfl, hN, hR H, fun D hD => lcZT (fun _ => true) (fun i => V.bl (within (rg.getD i (0, 0)) (ns.getD i 0))) hD hN (hR H) ?_ ?_⟩
  ·intro i y1 y2 H' T0 hy1 hy2 p' hT
   obtain ⟨n, hn, rfl⟩ := map_at hy1
   obtain ⟨r, hr', rfl⟩ := map_at hy2
   obtain ⟨p, hp, hS⟩ := hE i r hr'
   refine ⟨T0, _, rfl, .of hT, rfl, _, _, rfl, _, _, rfl, rfl, rfl, tYes_if ?_⟩
   refine ⟨_, rfl, _, rfl, n, p.1, p.2, r, rfl, hS H', p'.yes (Same.refl _) rfl ?_ ?_⟩
   ·show V.bl _ = V.bl _
    rw [List.getD_eq_getElem?_getD, List.getD_eq_getElem?_getD, hn, hp]; rfl
   ·have := (List.getElem?_eq_some_iff.mp hn).1; omega
  ·intro H' hs hd
   have e : ((List.range (min (ns.map V.int).length (rs.map V.ref).length)).filter fun _ => true).map (fun i => V.bl (within (rg.getD i (0, 0)) (ns.getD i 0))) = ((ns.zip rg).map fun q => within q.2 q.1).map V.bl := by
    rw [filter_tt, List.length_map, List.length_map, hlen, ← List.length_zip, List.map_map]
    refine range_map_get _ _ (ns.zip rg) fun i q hq => ?_
    obtain ⟨h1, h2⟩ := List.getElem?_zip_eq_some.mp hq
    rw [List.getD_eq_getElem?_getD, List.getD_eq_getElem?_getD, h1, h2]; rfl
   rw [e] at hd
   refine ⟨D, _, rfl, .of hd, ?_⟩
   rw [List.all_map]
   exact k H' hs
def RowsAt (H : Hp) (x : Addr) (rows : List (List Int)) : Prop := ∃ rs : List Addr, H x = some (.lst (rs.map V.ref)) ∧ Paired (fun r (ns : List Int) => H r = some (.lst (ns.map V.int))) rs rows
theorem RowsAt.same {H H' : Hp} {x : Addr} {rows : List (List Int)} (h : RowsAt H x rows) (s : Same H H') : RowsAt H' x rows := by
 obtain ⟨rs, h1, h2⟩ := h
 exact ⟨rs, s _ _ h1, Paired.mapP h2 fun r ns e => s _ _ e⟩
def RangesAt (K : PySem.W.Frag) (H : Hp) (b : Addr) (rg : List (Int × Int)) : Prop := ∃ rs : List Addr, rs.length = rg.length ∧ SqT K H b (rs.map V.ref) ∧ ∀ (i : Nat) (r : Addr), rs[i]? = some r → ∃ p, rg[i]? = some p ∧ ∀ H, SqT K H r [V.int p.1, V.int p.2]
theorem KRanges.rangesAt {K : PySem.W.Frag} {b : Addr} {rg : List (Int × Int)} (h : KRanges K b rg) (H : Hp) : RangesAt K H b rg := by
 obtain ⟨rs, h1, h2, h3⟩ := h.at
 exact ⟨rs, h1, h2 H, h3⟩
theorem RangesAt.same {K : PySem.W.Frag} {H H' : Hp} {b : Addr} {rg : List (Int × Int)} (h : RangesAt K H b rg) (s : Same H H') : RangesAt K H' b rg := by
 obtain ⟨rs, h1, h2, h3⟩ := h
 exact ⟨rs, h1, Same.seqT s h2, h3⟩
def sp_are_rows_within (K : PySem.W.Frag) : Sp := fun vs H Q _ => ∃ (rows : List (List Int)) (rg : List (Int × Int)) (x b : Addr), vs = [.ref x, .ref b] ∧ RowsAt H x rows ∧ RangesAt K H b rg ∧ rows.length ≤ 1000 ∧
 ∀ H', Same H H' → Q (.bl ((rows.zip rg).all fun q => rowWithin q.2 q.1)) H'
theorem ok_are_rows_within (T : Txt K mg a) : FnOk P w K mg base CX0 3 a.f_are_rows_within a.d_are_rows_within ["rows", "ranges"] (sp_are_rows_within K) := by
 refine T.are_rows_within.F.ok sc_are_rows_within (fun vs H Q E h => ?_) (fun cdv A outer s H vs Q E hr h => ?_)
 ·obtain ⟨ns, rg, x, b, rfl, _⟩ := h; rfl
 ·obtain ⟨rows, rg, x, b, rfl, ⟨as, hN, hP⟩, hG, hl, k⟩ := h
  obtain ⟨rs, hlen, hR, hE⟩ := hG
  have hlen2 := Paired.length hP
  refine ⟨_, (pss_one (ps_ret (pe_callB (allk K rfl rfl) rfl T.b_all boot_all (pa_cons (pe_lc rfl sc_are_rows_within.nd (pi_zipT rfl T.b_zip (pa_cons (pv 0) (pa_cons (pv 1) pa_nil))) (blkOk_by (own := [("row", 2), ("limits", 3)]) (by kernel_rfl)) (fun _ _ _ _ _ => (tupk K rfl (n := 2) rfl (pgs_cons (pg_name (i := 2) sc_are_rows_within.nd rfl (.inl rfl)) (pgs_cons (pg_name (i := 3) sc_are_rows_within.nd rfl (.inl rfl)) pgs_nil)))) (fun _ _ _ _ _ => pts_nil) (fun _ _ _ _ _ => (pe_call (ok_is_row_within T) (hr.mono (by decide)) rfl T.is_row_within.m T.is_row_within.F.kp T.is_row_within.b .nil pass0 (pa_cons (pv 2) (pa_cons (pv 3) pa_nil))))) pa_nil)))), ?_⟩
  refine ⟨_, rfl, _, rfl, x, b, _, _, rfl, .of hN, hR, fun D hD => lcZT (fun _ => true) (fun i => V.bl (rowWithin (rg.getD i (0, 0)) (rows.getD i []))) hD (.of hN) (hR) ?_ ?_⟩
  ·intro i y1 y2 H' T0 hy1 hy2 p' hT
   obtain ⟨n, hn, rfl⟩ := map_at hy1
   obtain ⟨r, hr', rfl⟩ := map_at hy2
   obtain ⟨p, hp, hS⟩ := hE i r hr'
   obtain ⟨row, hrow, hA⟩ := paired_get hP hn
   refine ⟨T0, _, rfl, .of hT, rfl, _, _, rfl, _, _, rfl, rfl, rfl, tYes_if ?_⟩
   refine ⟨_, rfl, _, rfl, row, p.1, p.2, n, r, rfl, .of (p'.same _ _ hA), hS H', fun H2 s2 => p'.yes s2 rfl ?_ ?_⟩
   ·show V.bl _ = V.bl _
    rw [List.getD_eq_getElem?_getD, List.getD_eq_getElem?_getD, hrow, hp]; rfl
   ·have := (List.getElem?_eq_some_iff.mp hrow).1; omega
  ·intro H' hs hd
   have e : ((List.range (min (as.map V.ref).length (rs.map V.ref).length)).filter fun _ => true).map (fun i => V.bl (rowWithin (rg.getD i (0, 0)) (rows.getD i []))) = ((rows.zip rg).map fun q => rowWithin q.2 q.1).map V.bl := by
    rw [filter_tt, List.length_map, List.length_map, hlen, hlen2, ← List.length_zip, List.map_map]
    refine range_map_get _ _ (rows.zip rg) fun i q hq => ?_
    obtain ⟨h1, h2⟩ := List.getElem?_zip_eq_some.mp hq
    rw [List.getD_eq_getElem?_getD, List.getD_eq_getElem?_getD, h1, h2]; rfl
   rw [e] at hd
   refine ⟨D, _, rfl, .of hd, ?_⟩
   rw [List.all_map]
   exact k H' hs
end UK
set_option Elab.async false
set_option linter.all false
set_option maxRecDepth 100000
set_option maxHeartbeats 4000000
namespace UK
open PySem PySem.Spec PyProof.Rows L2
variable {P : Program} {w : World} {K : PySem.W.Frag} {mg : Str → Option Value} {base : Heap} {a : Ads}
def Kp (H H' : Hp) (p : Addr) : Prop := ∀ b o, H b = some o → b ≠ p → H' b = some o
theorem Kp.upd {H : Hp} {p : Addr} {o : HO} : Kp H (L2.upd H p o) p := fun b u e hb => by rw [upd_ne hb]; exact e
theorem Kp.refl {H : Hp} {p : Addr} : Kp H H p := fun b u e hb => e
theorem Kp.trans {H H1 H2 : Hp} {p : Addr} (h1 : Kp H H1 p) (h2 : Kp H1 H2 p) : Kp H H2 p := fun b u e hb => h2 b u (h1 b u e hb) hb
theorem Kp.ofSame {H H' : Hp} {p : Addr} (s : Same H H') : Kp H H' p := fun b u e _ => s b u e
theorem Kp.seq {H H' : Hp} {p q : Addr} {xs : List V} {K : PySem.W.Frag} (k : Kp H H' p) (h : SqL K H q xs) (hp : ∀ u, H p = some u → (∀ ys, u ≠ .lst ys) ∧ ∀ o v, u ≠ .frz o v) : SqL K H' q xs := by
 rcases h with (h | ⟨o, h⟩) | h
 ·exact .inl (.inl (k _ _ h fun e => by subst e; exact (hp _ h).1 _ rfl))
 ·exact .inl (.inr ⟨o, k _ _ h fun e => by subst e; exact (hp _ h).2 _ _ rfl⟩)
 ·exact .inr h
theorem ins_no {H : Hp} {p C dx : Addr} {fs : List (Str × V)} (h : H p = some (.ins C dx fs)) : ∀ u, H p = some u → (∀ ys, u ≠ .lst ys) ∧ ∀ o v, u ≠ .frz o v := fun u e => by
 rw [h] at e; cases e
 exact ⟨fun ys z => (by cases z), fun o v z => (by cases z)⟩
def lf (ca : Addr) (pos : Int) : List (Str × V) := [("calls", .ref ca), ("place", .int pos)]
structure LineAt (K : PySem.W.Frag) (C : Addr) (H : Hp) (ln ca : Addr) (calls : List Int) (pos : Nat) : Prop where
 obj : ∃ dx, H ln = some (.ins C dx (lf ca pos))
 lst : SqL K H ca (calls.map V.int)
theorem LineAt.same {K : PySem.W.Frag} {C : Addr} {H H' : Hp} {ln ca : Addr} {calls : List Int} {pos : Nat} (h : LineAt K C H ln ca calls pos) (s : Same H H') : LineAt K C H' ln ca calls pos :=
 let ⟨⟨dx, h1⟩, h2⟩ := h
 ⟨⟨dx, s _ _ h1⟩, s.seq h2⟩
def sp_Line_init (C : Addr) : Sp := fun vs H Q _ => ∃ (p dx ca : Addr), vs = [.ref p, .ref ca] ∧ H p = some (.ins C dx []) ∧ ∀ H', H' p = some (.ins C dx (lf ca 0)) → Kp H H' p → Q .non H'
theorem ok_Line_init (T : Txt K mg a) : FnOk P w K mg base CX0 1 a.f_Line_init a.d_Line_init ["self", "calls"] (sp_Line_init a.C_Line) := by
 refine T.Line_init.F.ok sc_Line_init (fun vs H Q E h => ?_) (fun cdv A outer s H vs Q E hr h => ?_)
 ·obtain ⟨p, dx, ca, rfl, _⟩ := h; rfl
 ·obtain ⟨p, dx, ca, rfl, hp, k⟩ := h
  refine ⟨_, (pss_cons (ps_fld (pv 0) (pv 1) rfl)
   (pss_one (ps_fld (pv 0) pe_int rfl))), ?_⟩
  refine ⟨_, rfl, _, rfl, p, _, dx, _, rfl, hp, T.cl_Line, T.n_Line_calls, (by show 0 < 1000; decide), ?_⟩
  refine ⟨_, rfl, p, _, dx, _, rfl, upd_same, T.cl_Line, T.n_Line_place, (by show 1 < 1000; decide), ?_⟩
  exact k _ upd_same (Kp.upd.trans Kp.upd)
def sp_Line_is_over (K : PySem.W.Frag) (C : Addr) : Sp := fun vs H Q _ => ∃ (ln ca : Addr) (calls : List Int) (pos : Nat), vs = [.ref ln] ∧ LineAt K C H ln ca calls pos ∧ Q (.bl (decide (calls.length ≤ pos))) H
theorem ok_Line_is_over (T : Txt K mg a) : FnOk P w K mg base CX0 1 a.f_Line_is_over a.d_Line_is_over ["self"] (sp_Line_is_over K a.C_Line) := by
 refine T.Line_is_over.F.ok sc_Line_is_over (fun vs H Q E h => ?_) (fun cdv A outer s H vs Q E hr h => ?_)
 ·obtain ⟨ln, ca, calls, pos, rfl, _⟩ := h; rfl
 ·obtain ⟨ln, ca, calls, pos, rfl, ⟨⟨dx, hL⟩, hS⟩, k⟩ := h
  refine ⟨_, (pss_one (ps_ret (pe_cmpR op_ge (fldk K rfl (pv 0) rfl) (pe_callB (lenk K rfl) rfl T.b_len boot_len (pa_cons (fldk K rfl (pv 0) rfl) pa_nil)) (nomark _)))), ?_⟩
  refine ⟨_, rfl, ln, _, dx, _, _, rfl, hL, T.cl_Line, T.n_Line_place, rfl, _, rfl, ln, _, dx, _, _, rfl, hL, T.cl_Line, T.n_Line_calls, rfl, ca, _, rfl, .inl hS, _, _, rfl, rfl, ?_⟩
  have e : decide ((((calls.map V.int).length : Nat) : Int) ≤ (pos : Int)) = decide (calls.length ≤ pos) := by rw [List.length_map]; exact decide_eq_decide.mpr (by omega)
  show Q (V.bl (decide ((((calls.map V.int).length : Nat) : Int) ≤ (pos : Int)))) H
  rw [e]; exact k
def sp_Line_take_number (K : PySem.W.Frag) (C : Addr) : Sp := fun vs H Q _ => ∃ (ln ca : Addr) (calls : List Int) (pos : Nat) (x : Int), vs = [.ref ln] ∧ LineAt K C H ln ca calls pos ∧ calls[pos]? = some x ∧
 ∀ H', LineAt K C H' ln ca calls (pos + 1) → Kp H H' ln → Q (.int x) H'
theorem ok_Line_take_number (T : Txt K mg a) : FnOk P w K mg base CX0 1 a.f_Line_take_number a.d_Line_take_number ["self"] (sp_Line_take_number K a.C_Line) := by
 refine T.Line_take_number.F.ok sc_Line_take_number (fun vs H Q E h => ?_) (fun cdv A outer s H vs Q E hr h => ?_)
 ·obtain ⟨ln, ca, calls, pos, x, rfl, _⟩ := h; rfl
 ·obtain ⟨ln, ca, calls, pos, x, rfl, ⟨⟨dx, hL⟩, hS⟩, hx, k⟩ := h
  refine ⟨_, (pss_cons (ps_set (i := 1) sc_Line_take_number.nd rfl (.inl rfl) (pe_ix (ixk_list K rfl) (fldk K rfl (pv 0) rfl) (fldk K rfl (pv 0) rfl) (fun _ _ => rfl)))
   (pss_cons (ps_fld (pv 0) (pe_op op_add (fldk K rfl (pv 0) rfl) pe_int) rfl)
   (pss_one (ps_ret (pv 1))))), ?_⟩
  refine ⟨_, rfl, ln, _, dx, _, _, rfl, hL, T.cl_Line, T.n_Line_calls, rfl, _, rfl, ln, _, dx, _, _, rfl, hL, T.cl_Line, T.n_Line_place, rfl, ca, _, _, _, rfl, rfl, hS, atI_nat (at_map hx), ?_⟩
  refine ⟨_, rfl, ln, _, dx, _, _, rfl, hL, T.cl_Line, T.n_Line_place, rfl, _, _, rfl, rfl, _, rfl, ln, _, dx, _, rfl, hL, T.cl_Line, T.n_Line_place, (by show 2 < 1000; decide), ?_⟩
  exact ⟨_, rfl, k _ ⟨⟨dx, upd_same⟩, Kp.upd.seq hS (ins_no hL)⟩ Kp.upd⟩
theorem cut_take (calls : List Int) (pos m : Nat) (h : pos + m ≤ calls.length) : cutV (calls.map V.int) (some (pos : Int)) (some ((pos : Int) + (m : Int))) = ((calls.drop pos).take m).map V.int := by
 unfold cutV
 have e : (pos : Int) + (m : Int) = ((pos + m : Nat) : Int) := by omega
 rw [e, HT.sIx_nat, HT.sIx_nat, List.length_map, Nat.min_eq_left (show pos ≤ calls.length by omega), Nat.min_eq_left h, List.map_take, List.map_drop]
 congr 1; omega
def sp_Line_take_numbers (K : PySem.W.Frag) (C : Addr) : Sp := fun vs H Q _ => ∃ (ln ca : Addr) (calls : List Int) (pos m : Nat), vs = [.ref ln, .int m] ∧ LineAt K C H ln ca calls pos ∧ pos + m ≤ calls.length ∧
 ∀ H' p, H p = none → LineAt K C H' ln ca calls (pos + m) → H' p = some (.lst (((calls.drop pos).take m).map V.int)) → Kp H H' ln → Q (.ref p) H'
theorem ok_Line_take_numbers (T : Txt K mg a) : FnOk P w K mg base CX0 1 a.f_Line_take_numbers a.d_Line_take_numbers ["self", "how_many"] (sp_Line_take_numbers K a.C_Line) := by
 refine T.Line_take_numbers.F.ok sc_Line_take_numbers (fun vs H Q E h => ?_) (fun cdv A outer s H vs Q E hr h => ?_)
 ·obtain ⟨ln, ca, calls, pos, x, rfl, _⟩ := h; rfl
 ·obtain ⟨ln, ca, calls, pos, m, rfl, ⟨⟨dx, hL⟩, hS⟩, hm, k⟩ := h
  refine ⟨_, (pss_cons (ps_set (i := 2) sc_Line_take_numbers.nd rfl (.inl rfl) (fldk K rfl (pv 0) rfl))
   (pss_cons (ps_fld (pv 0) (pe_op op_add (pv 2) (pv 1)) rfl)
   (pss_one (ps_ret (pe_slice (slk_list K rfl) (fldk K rfl (pv 0) rfl) (po_some (pv 2)) (po_some (fldk K rfl (pv 0) rfl))))))), ?_⟩
  refine ⟨_, rfl, ln, _, dx, _, _, rfl, hL, T.cl_Line, T.n_Line_place, rfl, ?_⟩
  refine ⟨_, rfl, _, rfl, _, _, rfl, rfl, _, rfl, ln, _, dx, _, rfl, hL, T.cl_Line, T.n_Line_place, (by show 2 < 1000; decide), ?_⟩
  have hS' := (Kp.upd (H := H) (p := ln) (o := .ins a.C_Line dx (lf ca ((pos : Int) + (m : Int))))).seq hS (ins_no hL)
  refine ⟨_, rfl, ln, _, dx, _, _, rfl, upd_same, T.cl_Line, T.n_Line_calls, rfl, _, rfl, _, rfl, _, rfl, ln, _, dx, _, _, rfl, upd_same, T.cl_Line, T.n_Line_place, rfl, _, rfl, ca, _, rfl, hS', fun p hp => ?_⟩
  have hpl : ln ≠ p := ne_of_none upd_same hp
  have hpn : H p = none := by rw [upd_ne (fun q => hpl q.symm)] at hp; exact hp
  rw [cut_take calls pos m hm]
  refine k _ p hpn ⟨⟨dx, ?_⟩, (Same.new hp).seq hS'⟩ upd_same (Kp.upd.trans (Kp.ofSame (Same.new hp)))
  rw [upd_ne hpl, upd_same]
  have e : ((pos + m : Nat) : Int) = (pos : Int) + (m : Int) := by omega
  rw [e]; rfl
theorem rows_drop {calls : List Int} {m pos : Nat} {rows : List (List Int)} {rest : List Int} (h : PyFlat.rows (m + 1) (calls.drop pos) = some (rows, rest)) :
  ∃ (n : Nat) (rows' : List (List Int)), calls[pos]? = some (n : Int) ∧ pos + 1 + n ≤ calls.length ∧ rows = ((calls.drop (pos + 1)).take n) :: rows' ∧ PyFlat.rows m (calls.drop (pos + 1 + n)) = some (rows', rest) := by
 cases e : calls.drop pos with
 | nil => rw [e] at h; cases h
 | cons x r =>
  rw [e] at h
  have hx : calls[pos]? = some x := by
   have := List.getElem?_drop (xs := calls) (i := pos) (j := 0)
   rw [e] at this; simpa using this.symm
  have hr : calls.drop (pos + 1) = r := by
   have := List.drop_drop (l := calls) (i := 1) (j := pos)
   rw [e] at this
   rw [← this]; rfl
  unfold PyFlat.rows PyFlat.row at h
  dsimp only at h
  by_cases hc : 0 ≤ x ∧ x.toNat ≤ r.length
  ·rw [if_pos hc] at h
   dsimp only at h
   cases e2 : PyFlat.rows m (r.drop x.toNat) with
   | none => rw [e2] at h; cases h
   | some q =>
    obtain ⟨xs, t⟩ := q
    rw [e2] at h
    cases h
    have hlen : r.length = calls.length - (pos + 1) := by rw [← hr, List.length_drop]
    have hpos : pos < calls.length := (List.getElem?_eq_some_iff.mp hx).1
    refine ⟨x.toNat, xs, by rw [hx]; congr 1; omega, by omega, by rw [hr], ?_⟩
    rw [← hr, List.drop_drop] at e2
    exact e2
  ·rw [if_neg hc] at h; cases h
def sp_Line_take_rows (K : PySem.W.Frag) (C : Addr) : Sp := fun vs H Q _ => ∃ (ln ca : Addr) (calls : List Int) (pos m : Nat) (rows : List (List Int)) (rest : List Int), vs = [.ref ln, .int m] ∧ LineAt K C H ln ca calls pos ∧ m ≤ 1000 ∧
 PyFlat.rows m (calls.drop pos) = some (rows, rest) ∧ ∀ H' p pos', LineAt K C H' ln ca calls pos' → calls.drop pos' = rest → RowsAt H' p rows → H p = none → Kp H H' ln → Q (.ref p) H'
theorem rows_length : ∀ {m : Nat} {l : List Int} {rows : List (List Int)} {rest : List Int}, PyFlat.rows m l = some (rows, rest) → rows.length = m
 | 0, l, rows, rest, h => by cases h; rfl
 | m + 1, l, rows, rest, h => by
  unfold PyFlat.rows at h
  cases e : PyFlat.row l with
  | none => rw [e] at h; cases h
  | some q =>
   obtain ⟨x, t⟩ := q
   rw [e] at h
   dsimp only at h
   cases e2 : PyFlat.rows m t with
   | none => rw [e2] at h; cases h
   | some q2 =>
    obtain ⟨xs, t2⟩ := q2
    rw [e2] at h
    cases h
    rw [List.length_cons, rows_length e2]
theorem Paired.snoc1 {α β : Type} {F : α → β → Prop} {l : List α} {m : List β} (h : Paired F l m) {x : α} {y : β} (e : F x y) : Paired F (l ++ [x]) (m ++ [y]) := Paired.snoc h e
theorem ok_Line_take_rows (T : Txt K mg a) : FnOk P w K mg base CX0 2 a.f_Line_take_rows a.d_Line_take_rows ["self", "how_many"] (sp_Line_take_rows K a.C_Line) := by
 refine T.Line_take_rows.F.ok sc_Line_take_rows (fun vs H Q E h => ?_) (fun cdv A outer s H vs Q E hr h => ?_)
 ·obtain ⟨ln, ca, calls, pos, m, rows, rest, rfl, _⟩ := h; rfl
 ·obtain ⟨ln, ca, calls, pos, m, rows, rest, rfl, hL0, hm, hrows, k⟩ := h
  refine ⟨_, (pss_cons (ps_set (i := 2) sc_Line_take_rows.nd rfl (.inl rfl) (pe_lst pa_nil))
   (pss_cons (ps_while PassesOwn.never (pt_cmpR op_lt (pe_callB (lenk K rfl) rfl T.b_len boot_len (pa_cons (pv 2) pa_nil)) (pv 1) (nomark _))
    (pss_cons (ps_set (i := 3) sc_Line_take_rows.nd rfl (.inl rfl) (pe_meth0 (pv 0) T.cl_Line T.Line_take_number.mt (ok_Line_take_number T) (hr.mono (by decide)) T.Line_take_number.b .nil pass0))
   (pss_one (ps_expr (pe_bm PySem.F.plainAttrs_list PySem.F.slot_list_append PySem.F.type_list_append mt_append (pv 2) (pa_cons (pe_meth (pv 0) T.cl_Line T.Line_take_numbers.mt (ok_Line_take_numbers T) (hr.mono (by decide)) T.Line_take_numbers.b .nil pass0 (pa_cons (pv 3) pa_nil)) pa_nil))))))
   (pss_one (ps_ret (pv 2))))), ?_⟩
  refine ⟨(by show 0 ≤ sizeLine; exact Nat.zero_le _), fun p hp => ?_⟩
  have hcount := rows_length hrows
  refine ⟨fun μ σ H' => ∃ (v3 : Option V) (rs : List Addr) (done todo : List (List Int)) (pos' : Nat), σ = [some (.ref ln), some (.int m), some (.ref p), v3] ∧ LineAt K a.C_Line H' ln ca calls pos' ∧ H' p = some (.lst (rs.map V.ref)) ∧
   Paired (fun r (ns : List Int) => H' r = some (.lst (ns.map V.int)) ∧ r ≠ p) rs done ∧ done ++ todo = rows ∧ PyFlat.rows todo.length (calls.drop pos') = some (todo, rest) ∧ Kp H H' ln ∧ μ = todo.length, ?_, ?_⟩
  ·refine ⟨rows.length, none, [], [], rows, pos, rfl, hL0.same (Same.new hp), upd_same, .nil, rfl, by rw [hcount]; exact hrows, Kp.ofSame (Same.new hp), rfl⟩
  ·rintro μ σ H' ⟨v3, rs, done, todo, pos', rfl, hL, hR1, hR2, hdt, ht, hk, rfl⟩
   have hl1 := Paired.length hR2
   have hl2 : done.length + todo.length = m := by rw [← List.length_append, hdt, hcount]
   refine ⟨_, rfl, p, _, rfl, .inl (.of hR1), _, rfl, _, _, rfl, rfl, _, rfl, ?_⟩
   show if decide ((((rs.map V.ref).length : Nat) : Int) < (m : Int)) = true then _ else _
   cases todo with
   | nil =>
    rw [decide_eq_false (show ¬ (((rs.map V.ref).length : Nat) : Int) < (m : Int) by rw [List.length_map, hl1]; simp at hl2; omega)]
    refine iteF ⟨_, rfl, ?_⟩
    have hr : calls.drop pos' = rest := (Prod.mk.inj (Option.some.inj ht)).2
    rw [List.append_nil] at hdt
    exact k H' p pos' hL hr (by rw [← hdt]; exact ⟨rs, hR1, Paired.mapP hR2 fun _ _ e => e.1⟩) hp hk
   | cons t0 todo =>
    rw [decide_eq_true (show (((rs.map V.ref).length : Nat) : Int) < (m : Int) by rw [List.length_map, hl1]; simp at hl2; omega)]
    obtain ⟨n, todo', hx, hle, e1, ht'⟩ := rows_drop ht
    cases e1
    obtain ⟨dx, hL1⟩ := hL.obj
    refine iteT ⟨fun σ2 H2 => ∃ (v3 : Option V) (rs : List Addr) (done : List (List Int)) (pos' : Nat), σ2 = [some (.ref ln), some (.int m), some (.ref p), v3] ∧ LineAt K a.C_Line H2 ln ca calls pos' ∧ H2 p = some (.lst (rs.map V.ref)) ∧
     Paired (fun r (ns : List Int) => H2 r = some (.lst (ns.map V.int)) ∧ r ≠ p) rs done ∧ done ++ todo = rows ∧ PyFlat.rows todo.length (calls.drop pos') = some (todo, rest) ∧ Kp H H2 ln, ?_, ?_⟩
    ·rintro σ2 H2 ⟨v3, rs, done, pos', e1, e2, e3, e3', e4, e5, e6⟩
     exact ⟨todo.length, by simp, v3, rs, done, todo, pos', e1, e2, e3, e3', e4, e5, e6, rfl⟩
    ·refine ⟨_, rfl, ln, dx, _, rfl, hL1, rfl, ln, ca, calls, pos', n, rfl, hL, hx, fun H3 hL3 hk3 => ?_⟩
     have hp3 : p ≠ ln := ne_of hR1 hL1 (by intro z; cases z)
     have hR3 := hk3 _ _ hR1 hp3
     obtain ⟨dx3, hL3o⟩ := hL3.obj
     refine ⟨_, rfl, .inl ⟨rfl, _, .of hR3⟩, _, rfl, ln, dx3, _, rfl, hL3o, rfl, _, rfl, ln, ca, calls, pos' + 1, n, rfl, hL3, hle, fun H4 q hq hL4 hq4 hk4 => ?_⟩
     have hR4 := hk4 _ _ hR3 hp3
     refine ⟨p, _, _, rfl, rfl, hR4, (by rw [List.length_map, hl1]; exact small1000 (by omega)), ?_⟩
     have hnew : Kp H4 (L2.upd H4 p (.lst (rs.map V.ref ++ [V.ref q]))) p := Kp.upd
     have hqp : q ≠ p := fun z => by rw [z, hR3] at hq; cases hq
     have hall : Kp H (L2.upd H4 p (.lst (rs.map V.ref ++ [V.ref q]))) ln := fun b o e hb => by
      rw [upd_ne (ne_of_none e hp)]
      exact hk4 _ _ (hk3 _ _ (hk _ _ e hb) hb) hb
     refine ⟨_, rs ++ [q], done ++ [(calls.drop (pos' + 1)).take n], pos' + 1 + n, rfl, ?_, ?_, ?_, by rw [List.append_assoc]; exact hdt, ht', hall⟩
     ·obtain ⟨dx4, hL4o⟩ := hL4.obj
      obtain ⟨dx0, hL00⟩ := hL0.obj
      exact ⟨⟨dx4, hnew _ _ hL4o (fun z => hp3 z.symm)⟩, hall.seq hL0.lst (ins_no hL00)⟩
     ·rw [upd_same, List.map_append]; rfl
     ·refine Paired.snoc1 (Paired.mapP hR2 fun r ns e => ⟨?_, e.2⟩) ⟨hnew _ _ hq4 hqp, hqp⟩
      have hrl : r ≠ ln := ne_of e.1 hL1 (by intro z; cases z)
      exact hnew _ _ (hk4 _ _ (hk3 _ _ e.1 hrl) hrl) e.2
end UK
set_option Elab.async false
set_option linter.all false
set_option maxRecDepth 100000
set_option maxHeartbeats 4000000
namespace UK
open PySem PySem.Spec PyProof.Rows L2
theorem lcR {n : Nat} {g : TG} {tt : TT} {te : TE} {vs : List Nat} {σ : L2.St} {H1 : Hp} {D : Addr} {Qd : Hp → Prop} (P : Nat → Bool) (F : Nat → V) (nD : H1 D = none)
  (hs : ∀ i H, i < n → LcP H1 D P F i H → g (.int ((0 : Int) + (i : Nat))) (wipe σ vs) H fun σ2 H2 => wipe σ2 vs = wipe σ vs ∧ tt σ2 H2 fun b H3 =>
   if b = true then te σ2 H3 fun y H4 => ∃ acc, H4 D = some (.lst acc) ∧ acc.length < sizeLine ∧ LcP H1 D P F (i + 1) (upd H4 D (.lst (acc ++ [y]))) else LcP H1 D P F (i + 1) H3) (hd : ∀ H, Same H1 H → H D = some (.lst (((List.range n).filter P).map F)) → Qd H) :
  ∃ W : Nat → Nat → Hp → Prop, (∃ m, W 0 m (upd H1 D (.lst []))) ∧ ∀ i m H, W i m H →
   ((Itr 0 n).stop i H ∧ Qd H) ∨ ((Itr 0 n).go i H ∧ ∃ Nx : Hp → Prop, (∀ H', Nx H' → ∃ m', m' < m ∧ W (i + 1) m' H') ∧ ∀ x H', (Itr 0 n).yld i H x H' → g x (wipe σ vs) H' fun σ2 H2 => wipe σ2 vs = wipe σ vs ∧ tt σ2 H2 fun b H3 =>
    if b = true then te σ2 H3 fun y H4 => ∃ acc, H4 D = some (.lst acc) ∧ acc.length < sizeLine ∧ Nx (upd H4 D (.lst (acc ++ [y]))) else Nx H3) :=
 lc_range (LcP H1 D P F) (.start nD) hs fun H p => hd H p.same p.at_
theorem lcZ {K : PySem.W.Frag} {a b : Addr} {xs ys : List V} {g : TG} {tt : TT} {te : TE} {vs : List Nat} {σ : L2.St} {H1 : Hp} {D : Addr} {Qd : Hp → Prop} (P : Nat → Bool) (F : Nat → V) (n : H1 D = none) (hl : SqL K H1 a xs) (hl2 : SqL K H1 b ys)
  (hs : ∀ i x y H T, xs[i]? = some x → ys[i]? = some y → LcP H1 D P F i H → H T = some (.tup [x, y]) → g (.ref T) (wipe σ vs) H fun σ2 H2 => wipe σ2 vs = wipe σ vs ∧ tt σ2 H2 fun b H3 =>
   if b = true then te σ2 H3 fun y H4 => ∃ acc, H4 D = some (.lst acc) ∧ acc.length < sizeLine ∧ LcP H1 D P F (i + 1) (upd H4 D (.lst (acc ++ [y]))) else LcP H1 D P F (i + 1) H3) (hd : ∀ H, Same H1 H → H D = some (.lst (((List.range (min xs.length ys.length)).filter P).map F)) → Qd H) :
  ∃ W : Nat → Nat → Hp → Prop, (∃ m, W 0 m (upd H1 D (.lst []))) ∧ ∀ i m H, W i m H →
   ((Itz K a b).stop i H ∧ Qd H) ∨ ((Itz K a b).go i H ∧ ∃ Nx : Hp → Prop, (∀ H', Nx H' → ∃ m', m' < m ∧ W (i + 1) m' H') ∧ ∀ x H', (Itz K a b).yld i H x H' → g x (wipe σ vs) H' fun σ2 H2 => wipe σ2 vs = wipe σ vs ∧ tt σ2 H2 fun b H3 =>
    if b = true then te σ2 H3 fun y H4 => ∃ acc, H4 D = some (.lst acc) ∧ acc.length < sizeLine ∧ Nx (upd H4 D (.lst (acc ++ [y]))) else Nx H3) := by
 refine ⟨fun i m H => m = min xs.length ys.length - i ∧ i ≤ min xs.length ys.length ∧ LcP H1 D P F i H, ⟨min xs.length ys.length, by simp, Nat.zero_le _, .start n⟩, ?_⟩
 rintro i m H ⟨rfl, hi, p⟩
 have q := p.same.seq hl
 have q2 := p.same.seq hl2
 by_cases hlt : i < min xs.length ys.length
 ·have h1 : i < xs.length := Nat.lt_of_lt_of_le hlt (Nat.min_le_left _ _)
  have h2 : i < ys.length := Nat.lt_of_lt_of_le hlt (Nat.min_le_right _ _)
  refine .inr ⟨⟨xs, ys, xs[i], ys[i], q, q2, by simp [h1], by simp [h2]⟩, LcP H1 D P F (i + 1), fun H' p' => ⟨min xs.length ys.length - (i + 1), by omega, rfl, hlt, p'⟩, fun x H' y => ?_⟩
  obtain ⟨T, x', y', e, hT, e2, z1, z2⟩ := y
  subst e e2
  exact hs i x' y' _ T (z1 xs q) (z2 ys q2) ⟨p.new, p.same.trans (Same.new hT), Same.new hT _ _ p.at_⟩ upd_same
 ·have e : i = min xs.length ys.length := by omega
  subst e
  exact .inl ⟨⟨xs, ys, q, q2, by omega⟩, hd H p.same p.at_⟩
theorem for_enum {K : PySem.W.Frag} {a : Addr} {xs : List V} {g : TG} {tb : TS} {D : Ends} {σ : L2.St} {H : Hp} (Pv : Nat → L2.St → Hp → Prop) (h0 : Pv 0 σ H) (hl : ∀ i σ H, i ≤ xs.length → Pv i σ H → SqL K H a xs)
  (hs : ∀ i x T σ H, xs[i]? = some x → H T = none → Pv i σ H → g (.ref T) σ (upd H T (.tup [.int (i : Nat), x])) fun σ2 H2 => tb { D with nx := Pv (i + 1), ct := Pv (i + 1), bk := D.nx } σ2 H2) (hd : ∀ σ H, Pv xs.length σ H → D.nx σ H) :
  ∃ W : Nat → Nat → L2.St → Hp → Prop, (∃ m, W 0 m σ H) ∧ ∀ i m σ H, W i m σ H →
   ((Ite K a).stop i H ∧ D.nx σ H) ∨ ((Ite K a).go i H ∧ ∃ N : L2.St → Hp → Prop, (∀ σ' H', N σ' H' → ∃ m', m' < m ∧ W (i + 1) m' σ' H') ∧ ∀ x H', (Ite K a).yld i H x H' → g x σ H' fun σ2 H2 => tb { D with nx := N, ct := N, bk := D.nx } σ2 H2) := by
 refine ⟨fun i m σ H => m = xs.length - i ∧ i ≤ xs.length ∧ Pv i σ H, ⟨xs.length, by simp, Nat.zero_le _, h0⟩, ?_⟩
 rintro i m σ H ⟨rfl, hi, p⟩
 have q := hl i σ H hi p
 by_cases hlt : i < xs.length
 ·refine .inr ⟨⟨xs, xs[i], q, by simp [hlt]⟩, Pv (i + 1), fun σ' H' p' => ⟨xs.length - (i + 1), by omega, rfl, hlt, p'⟩, fun v H' y => ?_⟩
  obtain ⟨T, x', e, hT, e2, z⟩ := y
  subst e e2
  exact hs i x' T σ H (z xs q) hT p
 ·have e : i = xs.length := by omega
  subst e
  exact .inl ⟨⟨xs, q, Nat.le_refl _⟩, hd σ H p⟩
theorem for_zip {K : PySem.W.Frag} {a b : Addr} {xs ys : List V} {g : TG} {tb : TS} {D : Ends} {σ : L2.St} {H : Hp} (Pv : Nat → L2.St → Hp → Prop) (hxy : xs.length = ys.length) (h0 : Pv 0 σ H) (hl : ∀ i σ H, i ≤ xs.length → Pv i σ H → SqL K H a xs ∧ SqL K H b ys)
  (hs : ∀ i x y T σ H, xs[i]? = some x → ys[i]? = some y → H T = none → Pv i σ H → g (.ref T) σ (upd H T (.tup [x, y])) fun σ2 H2 => tb { D with nx := Pv (i + 1), ct := Pv (i + 1), bk := D.nx } σ2 H2) (hd : ∀ σ H, Pv xs.length σ H → D.nx σ H) :
  ∃ W : Nat → Nat → L2.St → Hp → Prop, (∃ m, W 0 m σ H) ∧ ∀ i m σ H, W i m σ H →
   ((Itz K a b).stop i H ∧ D.nx σ H) ∨ ((Itz K a b).go i H ∧ ∃ N : L2.St → Hp → Prop, (∀ σ' H', N σ' H' → ∃ m', m' < m ∧ W (i + 1) m' σ' H') ∧ ∀ x H', (Itz K a b).yld i H x H' → g x σ H' fun σ2 H2 => tb { D with nx := N, ct := N, bk := D.nx } σ2 H2) := by
 refine ⟨fun i m σ H => m = xs.length - i ∧ i ≤ xs.length ∧ Pv i σ H, ⟨xs.length, by simp, Nat.zero_le _, h0⟩, ?_⟩
 rintro i m σ H ⟨rfl, hi, p⟩
 obtain ⟨q, q2⟩ := hl i σ H hi p
 by_cases hlt : i < xs.length
 ·have hlt2 : i < ys.length := by omega
  refine .inr ⟨⟨xs, ys, xs[i], ys[i], q, q2, by simp [hlt], by simp [hlt2]⟩, Pv (i + 1), fun σ' H' p' => ⟨xs.length - (i + 1), by omega, rfl, hlt, p'⟩, fun v H' y => ?_⟩
  obtain ⟨T, x', y', e, hT, e2, z1, z2⟩ := y
  subst e e2
  exact hs i x' y' T σ H (z1 xs q) (z2 ys q2) hT p
 ·have e : i = xs.length := by omega
  subst e
  exact .inl ⟨⟨xs, ys, q, q2, .inl (Nat.le_refl _)⟩, hd σ H p⟩
theorem for_items {d : Addr} {o : Obj} {kvs : List (Key × V)} {g : TG} {tb : TS} {D : Ends} {σ : L2.St} {H : Hp} (Pv : Nat → L2.St → Hp → Prop) (h0 : Pv 0 σ H) (hl : ∀ i σ H, i ≤ kvs.length → Pv i σ H → H d = some (.frz o (.dK kvs)))
  (hs : ∀ i k v T σ H, kvs[i]? = some (k, v) → H T = none → Pv i σ H → g (.ref T) σ (upd H T (.tup [kV k, v])) fun σ2 H2 => tb { D with nx := Pv (i + 1), ct := Pv (i + 1), bk := D.nx } σ2 H2) (hd : ∀ σ H, Pv kvs.length σ H → D.nx σ H) :
  ∃ W : Nat → Nat → L2.St → Hp → Prop, (∃ m, W 0 m σ H) ∧ ∀ i m σ H, W i m σ H →
   ((Iti d o kvs).stop i H ∧ D.nx σ H) ∨ ((Iti d o kvs).go i H ∧ ∃ N : L2.St → Hp → Prop, (∀ σ' H', N σ' H' → ∃ m', m' < m ∧ W (i + 1) m' σ' H') ∧ ∀ x H', (Iti d o kvs).yld i H x H' → g x σ H' fun σ2 H2 => tb { D with nx := N, ct := N, bk := D.nx } σ2 H2) := by
 refine ⟨fun i m σ H => m = kvs.length - i ∧ i ≤ kvs.length ∧ Pv i σ H, ⟨kvs.length, by simp, Nat.zero_le _, h0⟩, ?_⟩
 rintro i m σ H ⟨rfl, hi, p⟩
 have q := hl i σ H hi p
 by_cases hlt : i < kvs.length
 ·refine .inr ⟨⟨q, hlt⟩, Pv (i + 1), fun σ' H' p' => ⟨kvs.length - (i + 1), by omega, rfl, hlt, p'⟩, fun x H' y => ?_⟩
  obtain ⟨T, k, v, e1, e2, e3, e4⟩ := y
  subst e2 e4
  exact hs i k v T σ H e1 e3 p
 ·have e : i = kvs.length := by omega
  subst e
  exact .inl ⟨⟨q, Nat.le_refl _⟩, hd σ H p⟩
def nI (ks : List Nat) : List V := ks.map fun (k : Nat) => V.int (k : Int)
theorem nI_length (l : List Nat) : (nI l).length = l.length := by unfold nI; rw [List.length_map]
theorem nI_eq (l : List Nat) : nI l = (l.map fun (k : Nat) => (k : Int)).map V.int := by unfold nI; rw [List.map_map]; rfl
theorem shl_one (k : Nat) : (1 : Int) * 2 ^ ((k : Int)).toNat = ((2 ^ k : Nat) : Int) := by rw [Int.toNat_natCast, Int.one_mul]; simp
theorem bitAnd_nat (x y : Nat) : Builtin.bitAnd (x : Int) (y : Int) = ((x &&& y : Nat) : Int) := by
 unfold Builtin.bitAnd
 rw [decide_eq_true (show (0 : Int) ≤ (x : Int) by omega), decide_eq_true (show (0 : Int) ≤ (y : Int) by omega)]
 simp
theorem bitOr_nat (x y : Nat) : Builtin.bitOr (x : Int) (y : Int) = ((x ||| y : Nat) : Int) := by
 rw [Bits.bitOr_pp (by omega) (by omega)]; simp
theorem take_succ_foldl {α β : Type} (f : β → α → β) (b : β) {l : List α} {i : Nat} {x : α} (h : l[i]? = some x) : (l.take (i + 1)).foldl f b = f ((l.take i).foldl f b) x := by
 have e : l.take (i + 1) = l.take i ++ [x] := by
  rw [List.take_succ, h]; rfl
 rw [e, List.foldl_append]; rfl
end UK
set_option Elab.async false
set_option linter.all false
set_option maxRecDepth 100000
set_option maxHeartbeats 4000000
namespace UK
open PySem PySem.Spec PyProof.Rows L2
variable {P : Program} {w : World} {K : PySem.W.Frag} {mg : Str → Option Value} {base : Heap} {a : Ads}
def sp_dearer_price : Sp := fun vs H Q _ => ∃ p : Int, vs = [.int p] ∧ Q (.int (p + p / 3)) H
theorem ok_dearer_price (T : Txt K mg a) : FnOk P w K mg base CX0 1 a.f_dearer_price a.d_dearer_price ["price"] sp_dearer_price := by
 refine T.dearer_price.F.ok sc_dearer_price (fun vs H Q E h => ?_) (fun cdv A outer s H vs Q E hr h => ?_)
 ·obtain ⟨p, rfl, _⟩ := h; rfl
 ·obtain ⟨p, rfl, k⟩ := h
  refine ⟨_, (pss_one (ps_ret (pe_op op_add (pv 0) (pe_op op_fdiv (pv 0) pe_int)))), ?_⟩
  exact ⟨_, rfl, _, rfl, _, _, rfl, rfl, ⟨by decide, by decide⟩, _, _, rfl, rfl, k⟩
def sp_may_be_offered : Sp := fun vs H Q _ => ∃ p o : Int, vs = [.int p, .int o] ∧ Q (.bl (p == o || Vbrgad.dearer p == o)) H
theorem ok_may_be_offered (T : Txt K mg a) : FnOk P w K mg base CX0 2 a.f_may_be_offered a.d_may_be_offered ["price", "offered"] sp_may_be_offered := by
 refine T.may_be_offered.F.ok sc_may_be_offered (fun vs H Q E h => ?_) (fun cdv A outer s H vs Q E hr h => ?_)
 ·obtain ⟨p, o, rfl, _⟩ := h; rfl
 ·obtain ⟨p, o, rfl, k⟩ := h
  refine ⟨_, (pss_one (ps_ret (pe_or (pe_cmpR op_eq (pv 0) (pv 1) (nomark _)) (pe_one (pe_cmpR op_eq (pe_call (ok_dearer_price T) (hr.mono (by decide)) rfl T.dearer_price.m T.dearer_price.F.kp T.dearer_price.b .nil pass0 (pa_cons (pv 0) pa_nil)) (pv 1) (nomark _)))))), ?_⟩
  refine ⟨_, rfl, _, rfl, rfl, _, rfl, iteC (fun h1 => ?_) (fun h1 => ?_)⟩
  ·rw [dec_int] at h1
   rw [h1] at k; exact k
  ·rw [dec_int] at h1
   refine ⟨_, rfl, p, rfl, _, rfl, rfl, ?_⟩
   rw [h1] at k
   show Q (V.bl (decide (V.int (p + p / 3) = V.int o))) H
   rw [dec_int]; exact k
def sp_all_of : Sp := fun vs H Q _ => ∃ n : Nat, vs = [.int n] ∧ n ≤ 1000 ∧ Q (.int ((2 ^ n - 1 : Nat) : Int)) H
theorem ok_all_of (T : Txt K mg a) : FnOk P w K mg base CX0 1 a.f_all_of a.d_all_of ["how_many"] sp_all_of := by
 refine T.all_of.F.ok sc_all_of (fun vs H Q E h => ?_) (fun cdv A outer s H vs Q E hr h => ?_)
 ·obtain ⟨p, rfl, _⟩ := h; rfl
 ·obtain ⟨n, rfl, hn, k⟩ := h
  refine ⟨_, (pss_one (ps_ret (pe_op op_sub (pe_op op_shl pe_int (pv 0)) pe_int))), ?_⟩
  refine ⟨_, rfl, _, _, rfl, rfl, ⟨by omega, by omega, by decide⟩, _, _, rfl, rfl, ?_⟩
  have e : (1 : Int) * 2 ^ ((n : Int)).toNat - 1 = ((2 ^ n - 1 : Nat) : Int) := by
   rw [Int.toNat_natCast, Int.one_mul]
   have := Nat.two_pow_pos n
   rw [Int.natCast_sub (by omega)]
   simp
  show Q (V.int ((1 : Int) * 2 ^ ((n : Int)).toNat - 1)) H
  rw [e]; exact k
def sp_set_of : Sp := fun vs H Q _ => ∃ k : Nat, vs = [.int k] ∧ k ≤ 1000 ∧ Q (.int ((2 ^ k : Nat) : Int)) H
theorem ok_set_of (T : Txt K mg a) : FnOk P w K mg base CX0 1 a.f_set_of a.d_set_of ["member"] sp_set_of := by
 refine T.set_of.F.ok sc_set_of (fun vs H Q E h => ?_) (fun cdv A outer s H vs Q E hr h => ?_)
 ·obtain ⟨p, rfl, _⟩ := h; rfl
 ·obtain ⟨n, rfl, hn, k⟩ := h
  refine ⟨_, (pss_one (ps_ret (pe_op op_shl pe_int (pv 0)))), ?_⟩
  refine ⟨_, rfl, _, _, rfl, rfl, ⟨by omega, by omega, by decide⟩, ?_⟩
  show Q (V.int ((1 : Int) * 2 ^ ((n : Int)).toNat)) H
  rw [shl_one]; exact k
def sp_has_member : Sp := fun vs H Q _ => ∃ t k : Nat, vs = [.int t, .int k] ∧ Q (.bl (Vbrgad.has t k)) H
theorem ok_has_member (T : Txt K mg a) : FnOk P w K mg base CX0 1 a.f_has_member a.d_has_member ["these", "member"] sp_has_member := by
 refine T.has_member.F.ok sc_has_member (fun vs H Q E h => ?_) (fun cdv A outer s H vs Q E hr h => ?_)
 ·obtain ⟨t, p, rfl, _⟩ := h; rfl
 ·obtain ⟨t, n, rfl, k⟩ := h
  refine ⟨_, (pss_one (ps_ret (pe_cmpR op_eq (pe_op op_and (pe_op op_shr (pv 0) (pv 1)) pe_int) pe_int (nomark _)))), ?_⟩
  refine ⟨_, rfl, _, rfl, _, _, rfl, rfl, (by show (0 : Int) ≤ (n : Int); omega), _, _, rfl, rfl, rfl, ?_⟩
  show Q (V.bl (decide (V.int (Builtin.bitAnd ((t : Int) / 2 ^ ((n : Int)).toNat) 1) = V.int 1))) H
  have e : (t : Int) / 2 ^ ((n : Int)).toNat = ((t / 2 ^ n : Nat) : Int) := by rw [Int.toNat_natCast]; simp
  have e2 : Builtin.bitAnd ((t / 2 ^ n : Nat) : Int) 1 = ((t / 2 ^ n % 2 : Nat) : Int) := by
   have := bitAnd_nat (t / 2 ^ n) 1
   rw [Nat.and_one_is_mod] at this; exact this
  rw [e, e2, dec_int]
  have e3 : (((t / 2 ^ n % 2 : Nat) : Int) == 1) = Vbrgad.has t n := by
   unfold Vbrgad.has
   rw [Bool.eq_iff_iff, beq_iff_eq, beq_iff_eq]; omega
  rw [e3]; exact k
def sp_members_of : Sp := fun vs H Q _ => ∃ t n : Nat, vs = [.int t, .int n] ∧ n ≤ 1000 ∧ ∀ H' p, Same H H' → H p = none → H' p = some (.lst (nI (Vbrgad.members n t))) → Q (.ref p) H'
theorem ok_members_of (T : Txt K mg a) : FnOk P w K mg base CX0 2 a.f_members_of a.d_members_of ["these", "how_many"] sp_members_of := by
 refine T.members_of.F.ok sc_members_of (fun vs H Q E h => ?_) (fun cdv A outer s H vs Q E hr h => ?_)
 ·obtain ⟨t, p, rfl, _⟩ := h; rfl
 ·obtain ⟨t, n, rfl, hn, k⟩ := h
  refine ⟨_, (pss_one (ps_ret (pe_lc rfl sc_members_of.nd (pi_range1 rfl T.b_range (pa_cons (pv 1) pa_nil)) (blkOk_by (own := [("member", 2)]) (by kernel_rfl)) (fun _ _ _ _ _ => (pg_name (i := 2) sc_members_of.nd rfl (.inl rfl))) (fun _ _ _ _ _ => (pts_one (pt_val (pe_call (ok_has_member T) (hr.mono (by decide)) rfl T.has_member.m T.has_member.F.kp T.has_member.b .nil pass0 (pa_cons (pv 0) (pa_cons (pv 2) pa_nil)))))) (fun _ _ _ _ _ => (pv 2))))), ?_⟩
  refine ⟨_, rfl, _, rfl, (by omega), (by omega), fun D hD => lcR (fun i => Vbrgad.has t i) (fun i => V.int (i : Nat)) hD ?_ ?_⟩
  ·intro i H' hi p'
   refine ⟨rfl, _, rfl, _, rfl, t, i, by rw [Int.zero_add]; rfl, ?_⟩
   refine ⟨_, rfl, iteC (fun h1 => ?_) (fun h1 => ?_)⟩
   ·refine ⟨_, rfl, p'.yes (Same.refl _) h1 (by rw [Int.zero_add]) ?_⟩
    have hi' : i < ((n : Int)).toNat := hi
    omega
   ·exact p'.no (Same.refl _) h1
  ·intro H' hs hd
   rw [Int.toNat_natCast] at hd
   exact k H' D hs hD hd
def sp_kinds_of_sort (K : PySem.W.Frag) : Sp := fun vs H Q _ => ∃ (sort : Int) (ks : List Int) (x : Addr), vs = [.int sort, .ref x] ∧ SqL K H x (ks.map V.int) ∧ ks.length ≤ 1000 ∧
 ∀ H' p, Same H H' → H p = none → H' p = some (.lst (((List.range ks.length).filter fun i => ks.getD i 0 == sort).map fun (i : Nat) => V.int (i : Int))) → Q (.ref p) H'
theorem ok_kinds_of_sort (T : Txt K mg a) : FnOk P w K mg base CX0 1 a.f_kinds_of_sort a.d_kinds_of_sort ["sort", "kind_sorts"] (sp_kinds_of_sort K) := by
 refine T.kinds_of_sort.F.ok sc_kinds_of_sort (fun vs H Q E h => ?_) (fun cdv A outer s H vs Q E hr h => ?_)
 ·obtain ⟨p, ks, x, rfl, _⟩ := h; rfl
 ·obtain ⟨sort, ks, x, rfl, hS, hl, k⟩ := h
  refine ⟨_, (pss_one (ps_ret (pe_lc rfl sc_kinds_of_sort.nd (pi_enum rfl T.b_enumerate (pa_cons (pv 1) pa_nil)) (blkOk_by (own := [("kind", 2), ("kind_sort", 3)]) (by kernel_rfl)) (fun _ _ _ _ _ => (tupk K rfl (n := 2) rfl (pgs_cons (pg_name (i := 2) sc_kinds_of_sort.nd rfl (.inl rfl)) (pgs_cons (pg_name (i := 3) sc_kinds_of_sort.nd rfl (.inl rfl)) pgs_nil)))) (fun _ _ _ _ _ => (pts_one (pt_cmpR op_eq (pv 3) (pv 0) (nomark _)))) (fun _ _ _ _ _ => (pv 2))))), ?_⟩
  refine ⟨_, rfl, x, _, rfl, hS, fun D hD => lcE (fun i => ks.getD i 0 == sort) (fun i => V.int (i : Nat)) hD hS ?_ ?_⟩
  ·intro i y H' T0 hy p' hT
   obtain ⟨n, hn, rfl⟩ := map_at hy
   refine ⟨T0, _, rfl, .of hT, rfl, _, _, rfl, _, _, rfl, rfl, rfl, _, rfl, _, rfl, rfl, _, rfl, iteC (fun h1 => ?_) (fun h1 => ?_)⟩
   ·rw [dec_int] at h1
    refine ⟨_, rfl, p'.yes (Same.refl _) ?_ rfl ?_⟩
    ·show (ks.getD i 0 == sort) = true
     rw [List.getD_eq_getElem?_getD, hn]; exact h1
    ·have := (List.getElem?_eq_some_iff.mp hn).1; omega
   ·rw [dec_int] at h1
    refine p'.no (Same.refl _) ?_
    show (ks.getD i 0 == sort) = false
    rw [List.getD_eq_getElem?_getD, hn]; exact h1
  ·intro H' hs hd
   rw [List.length_map] at hd
   exact k H' D hs hD hd
theorem perm_of_sub : ∀ {l m : List Int}, l.Nodup → (∀ x, x ∈ l → x ∈ m) → m.length ≤ l.length → l.Perm m
 | [], m, _, _, h => by
  have : m = [] := List.eq_nil_of_length_eq_zero (by simpa using h)
  rw [this]
 | x :: l, m, hn, hs, hl => by
  have hx : x ∈ m := hs x (List.mem_cons_self ..)
  have hn' := List.nodup_cons.mp hn
  have p := List.perm_cons_erase hx
  refine (List.Perm.cons x (perm_of_sub hn'.2 (fun y hy => ?_) ?_)).trans p.symm
  ·have hne : y ≠ x := fun e => hn'.1 (e ▸ hy)
   exact (List.mem_erase_of_ne hne).mpr (hs y (List.mem_cons_of_mem _ hy))
  ·have := List.length_erase_of_mem hx
   simp at hl ⊢; omega
theorem range_int_sorted (n : Nat) : ((List.range n).map fun (i : Nat) => (i : Int)).Pairwise (· ≤ ·) := by
 rw [List.pairwise_map]
 exact (List.pairwise_lt_range).imp fun h => by omega
theorem sorted_range {ns ns' : List Int} (hp : ns'.Perm ns) (hs : ns'.Pairwise (· ≤ ·)) : (ns' = (List.range ns.length).map fun (i : Nat) => (i : Int)) ↔ ∀ k : Nat, k < ns.length → (k : Int) ∈ ns := by
 constructor
 ·intro e k hk
  refine hp.mem_iff.mp ?_
  rw [e]
  exact List.mem_map.mpr ⟨k, List.mem_range.mpr hk, rfl⟩
 ·intro h
  have hn : ((List.range ns.length).map fun (i : Nat) => (i : Int)).Nodup := by
   rw [List.nodup_iff_pairwise_ne, List.pairwise_map]
   exact (List.nodup_iff_pairwise_ne.mp List.nodup_range).imp fun h => by omega
  have p := perm_of_sub hn (fun x hx => by
   obtain ⟨k, hk, rfl⟩ := List.mem_map.mp hx
   exact h k (List.mem_range.mp hk)) (by simp)
  exact PySem.W.ksm_same (hp.trans p.symm) hs (range_int_sorted _)
theorem isPairing_iff {ns : List Int} (h0 : ∀ x ∈ ns, 0 ≤ x) : Vbrgad.isPairing ns.length (ns.map Int.toNat) = true ↔ ∀ k : Nat, k < ns.length → (k : Int) ∈ ns := by
 unfold Vbrgad.isPairing
 rw [List.length_map, decide_eq_true rfl, Bool.true_and, List.all_eq_true]
 constructor
 ·intro h k hk
  have := h k (List.mem_range.mpr hk)
  rw [List.contains_iff_mem, List.mem_map] at this
  obtain ⟨x, hx, e⟩ := this
  have := h0 x hx
  have e2 : x = (k : Int) := by omega
  exact e2 ▸ hx
 ·intro h k hk
  rw [List.contains_iff_mem, List.mem_map]
  exact ⟨_, h k (List.mem_range.mp hk), by simp⟩
theorem dp_ints {K : PySem.W.Frag} {H : Hp} : ∀ ns : List Int, DpAll K H (ns.map V.int) (ns.map PyData.int)
 | [] => .nil
 | n :: r => .cons (.int n) (dp_ints r)
def sp_is_pairing (K : PySem.W.Frag) : Sp := fun vs H Q _ => ∃ (ns : List Int) (x : Addr), vs = [.ref x] ∧ SqL K H x (ns.map V.int) ∧ ns.length < 64 ∧ (∀ x ∈ ns, 0 ≤ x) ∧ ∀ H', Same H H' → Q (.bl (Vbrgad.isPairing ns.length (ns.map Int.toNat))) H'
theorem ok_is_pairing (T : Txt K mg a) : FnOk P w K mg base CX0 1 a.f_is_pairing a.d_is_pairing ["row"] (sp_is_pairing K) := by
 refine T.is_pairing.F.ok sc_is_pairing (fun vs H Q E h => ?_) (fun cdv A outer s H vs Q E hr h => ?_)
 ·obtain ⟨ns, x, rfl, _⟩ := h; rfl
 ·obtain ⟨ns, x, rfl, hS, hl, h0, k⟩ := h
  refine ⟨_, (pss_one (ps_ret (pe_cmpR (eqDk K rfl hr.units) (pe_callB (sortedk K rfl) rfl T.b_sorted boot_sorted (pa_cons (pv 0) pa_nil)) (pe_callTy (cr_list_rng rfl) rfl T.b_list boot_list (pa_cons (pe_callTy cr_range1 rfl T.b_range boot_range (pa_cons (pe_callB (lenk K rfl) rfl T.b_len boot_len (pa_cons (pv 0) pa_nil)) pa_nil)) pa_nil)) (nomark _)))), ?_⟩
  refine ⟨_, rfl, x, ns, rfl, hS, hl, fun ns' p hp hs hpn => ?_⟩
  have s1 : Same H (upd H p (.lst (ns'.map V.int))) := Same.new hpn
  refine ⟨_, rfl, x, _, rfl, .inl (s1.seq hS), _, rfl, fun q hq => ?_⟩
  have s2 := s1.trans (Same.new (o := .rng 0 ((ns.map V.int).length : Int)) hq)
  refine ⟨q, (ns.map V.int).length, rfl, upd_same, (by rw [List.length_map]; omega), fun r hr' => ?_⟩
  have s3 := s2.trans (Same.new (o := .lst ((List.range (ns.map V.int).length).map fun (i : Nat) => V.int (i : Int))) hr')
  refine ⟨.list (ns'.map PyData.int), .list (((List.range ns.length).map fun (i : Nat) => (i : Int)).map PyData.int), .lst (.of ?_) (dp_ints ns'), .lst (.of upd_same) ?_, PySem.W.ke_shaped_ints _, PySem.W.ke_shaped_ints _, ?_⟩
  ·exact (Same.new hr') _ _ (Same.new hq _ _ upd_same)
  ·rw [List.length_map]
   have := dp_ints (K := K) (H := upd (upd (upd H p (.lst (ns'.map V.int))) q (.rng 0 ((ns.map V.int).length : Int))) r (.lst ((List.range (ns.map V.int).length).map fun (i : Nat) => V.int (i : Int)))) ((List.range ns.length).map fun (i : Nat) => (i : Int))
   rw [List.map_map, List.length_map] at this
   exact this
  ·have e : PyData.eqv (.list (ns'.map PyData.int)) (.list (((List.range ns.length).map fun (i : Nat) => (i : Int)).map PyData.int)) = Vbrgad.isPairing ns.length (ns.map Int.toNat) := by
    show PyData.eqvAll _ _ = _
    rw [PySem.W.ked_eqvAll]
    have h1 := sorted_range hp hs
    have h2 := isPairing_iff h0
    cases e2 : Vbrgad.isPairing ns.length (ns.map Int.toNat) with
    | true => exact decide_eq_true (h1.mpr (h2.mp e2))
    | false => exact decide_eq_false fun z => by rw [h2.mpr (h1.mp z)] at e2; cases e2
   rw [e]; exact k _ s3
end UK
set_option Elab.async false
set_option linter.all false
set_option maxRecDepth 100000
set_option maxHeartbeats 4000000
namespace UK
open PySem PySem.Spec PyProof.Rows L2
variable {P : Program} {w : World} {K : PySem.W.Frag} {mg : Str → Option Value} {base : Heap} {a : Ads}
def kvW (ws : Ws) : List (Key × V) := ws.map fun p => (Sum.inl (p.1 : Int), V.int (p.2 : Int))
theorem kvW_val {n : Nat} : ∀ {ws : Ws}, WsOk n ws → ∀ T : Nat, valV (kvW ws) (Sum.inl (T : Int)) = if val ws T = 0 then none else some (V.int (val ws T : Int))
 | [], _, T => rfl
 | p :: ws, h, T => by
  have hn := List.nodup_cons.mp (show (p.1 :: ws.map (·.1)).Nodup from h.nd)
  have h' : WsOk n ws := ⟨hn.2, fun p hp => h.lt p (List.mem_cons_of_mem _ hp), fun p hp => h.pos p (List.mem_cons_of_mem _ hp)⟩
  have hp := h.pos p (List.mem_cons_self ..)
  show valV ((Sum.inl (p.1 : Int), V.int (p.2 : Int)) :: kvW ws) _ = _
  rw [val_cons]
  by_cases e : p.1 = T
  ·subst e
   rw [valV_pos rfl, if_pos rfl, val_out hn.1, Nat.add_zero, if_neg (by omega)]
  ·rw [valV_neg (fun q => e (by have := Sum.inl.inj q; omega)), kvW_val h' T, if_neg e, Nat.zero_add]
theorem kvW_getD {n : Nat} {ws : Ws} (h : WsOk n ws) (T : Nat) : (valV (kvW ws) (Sum.inl (T : Int))).getD (V.int 0) = V.int (val ws T : Int) := by
 rw [kvW_val h T]
 by_cases e : val ws T = 0
 ·rw [if_pos e, e]; rfl
 ·rw [if_neg e]; rfl
theorem kvW_isSome {n : Nat} {ws : Ws} (h : WsOk n ws) (T : Nat) : (valV (kvW ws) (Sum.inl (T : Int))).isSome = decide (0 < val ws T) := by
 rw [kvW_val h T]
 by_cases e : val ws T = 0
 ·rw [if_pos e, e]; rfl
 ·rw [if_neg e, decide_eq_true (by omega)]; rfl
theorem kvW_put (ws : Ws) (T c : Nat) : putK (kvW ws) (Sum.inl (T : Int)) (V.int (c : Int)) = kvW (put ws T c) := by
 unfold putK put
 have e : ((kvW ws).any fun kv => decide (kv.1 = Sum.inl (T : Int))) = ws.any fun p => decide (p.1 = T) := by
  unfold kvW
  rw [List.any_map]
  congr 1
  funext p
  show decide ((Sum.inl (p.1 : Int) : Key) = Sum.inl (T : Int)) = decide (p.1 = T)
  exact decide_eq_decide.mpr ⟨fun q => by have := Sum.inl.inj q; omega, fun q => by rw [q]⟩
 rw [e]
 by_cases h : (ws.any fun p => decide (p.1 = T)) = true
 ·rw [if_pos h, if_pos h]
  unfold kvW
  rw [List.map_map, List.map_map]
  refine List.map_congr_left fun p _ => ?_
  show (if (Sum.inl (p.1 : Int) : Key) = Sum.inl (T : Int) then _ else _) = _
  by_cases q : p.1 = T
  ·rw [if_pos (by rw [q])]
   show _ = ((Sum.inl (((if p.1 = T then (p.1, c) else p).1 : Nat) : Int) : Key), V.int (((if p.1 = T then (p.1, c) else p).2 : Nat) : Int))
   rw [if_pos q]
  ·rw [if_neg (fun z => q (by have := Sum.inl.inj z; omega))]
   show _ = ((Sum.inl (((if p.1 = T then (p.1, c) else p).1 : Nat) : Int) : Key), V.int (((if p.1 = T then (p.1, c) else p).2 : Nat) : Int))
   rw [if_neg q]
 ·rw [if_neg h, if_neg h]
  unfold kvW
  rw [List.map_append]; rfl
def sp_ways_with_one_more : Sp := fun vs H Q _ => ∃ (ws : Ws) (ks : List Nat) (n : Nat) (d kk : Addr), vs = [.ref d, .ref kk] ∧ WsOk n ws ∧ n ≤ 10 ∧ (∀ k ∈ ks, k < n) ∧ H d = some (.dK (kvW ws)) ∧ H kk = some (.lst (nI ks)) ∧
 ∀ H' p, Same H H' → H p = none → H' p = some (.dK (kvW (grow ws ks))) → Q (.ref p) H'
theorem ok_ways_with_one_more (T : Txt K mg a) : FnOk P w K mg base CX0 2 a.f_ways_with_one_more a.d_ways_with_one_more ["ways", "kinds"] sp_ways_with_one_more := by
 refine T.ways_with_one_more.F.ok sc_ways_with_one_more (fun vs H Q E h => ?_) (fun cdv A outer s H vs Q E hr h => ?_)
 ·obtain ⟨ws, ks, n, d, kk, rfl, _⟩ := h; rfl
 ·obtain ⟨ws, ks, n, d, kk, rfl, hok, hn, hks, hd, hkk, k⟩ := h
  have hpow : 2 ^ n ≤ 1024 := Nat.pow_le_pow_right (n := 2) (by omega) hn
  refine ⟨_, (pss_cons (ps_set (i := 2) sc_ways_with_one_more.nd rfl (.inl rfl) pe_dnewK)
   (pss_cons (ps_lock (ps_for PassesOwn.never rfl (pi_items (pv 0)) (tupk K rfl (n := 2) rfl (pgs_cons (pg_name (i := 3) sc_ways_with_one_more.nd rfl (.inl rfl)) (pgs_cons (pg_name (i := 4) sc_ways_with_one_more.nd rfl (.inl rfl)) pgs_nil)))
    (pss_one (ps_for PassesOwn.never rfl (pi_list (pv 1)) (pg_name (i := 5) sc_ways_with_one_more.nd rfl (.inl rfl))
    (pss_one (ps_if (pt_not (pt_val (pe_call (ok_has_member T) (hr.mono (by decide)) rfl T.has_member.m T.has_member.F.kp T.has_member.b .nil pass0 (pa_cons (pv 3) (pa_cons (pv 5) pa_nil)))))
    (pss_cons (ps_set (i := 6) sc_ways_with_one_more.nd rfl (.inl rfl) (pe_op op_or (pv 3) (pe_call (ok_set_of T) (hr.mono (by decide)) rfl T.set_of.m T.set_of.F.kp T.set_of.b .nil pass0 (pa_cons (pv 5) pa_nil))))
   (pss_one (ps_dput (hu_of hr) (pv 2) (pv 6) (pe_op op_add (pe_dget2 (hu_of hr) (pv 2) (pv 6) pe_int ⟨rfl, rfl, rfl, rfl⟩) (pv 4)) rfl)))
    pss_nil))))))
   (pss_one (ps_ret (pv 2))))), ?_⟩
  intro g hg
  have hgd : d ≠ g := ne_of_none hd hg
  have hkd : kk ≠ d := ne_of hkk hd (by intro z; cases z)
  refine ⟨d, _, (Same.new hg) _ _ hd, trivial, fun od => ⟨_, rfl, d, od, _, rfl, upd_same, ?_⟩⟩
  refine for_items (fun i σ H' => ∃ v3 v4 v5 v6 : Option V, σ = [some (.ref d), some (.ref kk), some (.ref g), v3, v4, v5, v6] ∧ H' g = some (.dK (kvW ((ws.take i).foldl (fun g p => growK ks p.1 p.2 g) []))) ∧
   H' d = some (.frz od (.dK (kvW ws))) ∧ Kp H H' d) ⟨none, none, none, none, rfl, ?_, upd_same, ?_⟩ (fun i σ H' _ ⟨_, _, _, _, _, _, h, _⟩ => h) ?_ ?_
  ·rw [upd_ne (fun z => hgd z.symm), upd_same]; rfl
  ·intro b o e hb
   rw [upd_ne hb]; exact Same.new hg _ _ e
  ·rintro i key v T0 σ H' hi hT ⟨v3, v4, v5, v6, rfl, hg', hd', hk'⟩
   obtain ⟨⟨t, c⟩, hp, e⟩ := map_at hi
   cases e
   have hmem : (t, c) ∈ ws := List.mem_of_getElem? hp
   have ht : t < 2 ^ n := hok.lt _ hmem
   have hc : 0 < c := hok.pos _ hmem
   have hG0 : WsOk n ((ws.take i).foldl (fun g p => growK ks p.1 p.2 g) []) := foldl_ok hks (fun p hp => hok.lt p (List.mem_of_mem_take hp)) (fun p hp => hok.pos p (List.mem_of_mem_take hp)) (wsOk_nil n)
   have hTg : g ≠ T0 := ne_of_none hg' hT
   have hTd : d ≠ T0 := ne_of_none hd' hT
   refine ⟨T0, _, rfl, .of upd_same, rfl, _, _, rfl, _, _, rfl, rfl, ?_⟩
   have hkk' : ∀ H2, Kp H H2 d → SqL K H2 kk (nI ks) := fun H2 h2 => .of (h2 _ _ hkk hkd)
   have hk2 : Kp H (upd H' T0 (.tup [kV (Sum.inl (t : Int)), V.int (c : Int)])) d := hk'.trans (Kp.ofSame (Same.new hT))
   refine ⟨_, rfl, kk, rfl, ⟨_, hkk' _ hk2⟩, for_list (K := K) (a := kk) (xs := nI ks) (fun j σ H' => ∃ v5 v6 : Option V, σ = [some (.ref d), some (.ref kk), some (.ref g), some (.int (t : Int)), some (.int (c : Int)), v5, v6] ∧
    H' g = some (.dK (kvW (growK (ks.take j) t c ((ws.take i).foldl (fun g p => growK ks p.1 p.2 g) [])))) ∧ H' d = some (.frz od (.dK (kvW ws))) ∧ Kp H H' d) ⟨v5, v6, rfl, ?_, ?_, hk2⟩ (fun j σ H2 _ ⟨_, _, _, _, _, h⟩ => hkk' _ h) ?_ ?_⟩
   ·rw [upd_ne hTg]; exact hg'
   ·rw [upd_ne hTd]; exact hd'
   ·rintro j y σ H2 hj ⟨v5, v6, rfl, hg2, hd2, hk2⟩
    obtain ⟨kd, hkd2, rfl⟩ := map_at hj
    have hkn : kd < n := hks kd (List.mem_of_getElem? hkd2)
    have hG : WsOk n (growK (ks.take j) t c ((ws.take i).foldl (fun g p => growK ks p.1 p.2 g) [])) := growK_ok ht hc hG0 fun k hk => hks k (List.mem_of_mem_take hk)
    have hstep : growK (ks.take (j + 1)) t c ((ws.take i).foldl (fun g p => growK ks p.1 p.2 g) []) = grow1 t c (growK (ks.take j) t c ((ws.take i).foldl (fun g p => growK ks p.1 p.2 g) [])) kd := take_succ_foldl _ _ hkd2
    generalize growK (ks.take j) t c ((ws.take i).foldl (fun g p => growK ks p.1 p.2 g) []) = G at hg2 hG hstep
    refine ⟨_, rfl, _, rfl, t, kd, rfl, _, rfl, ?_⟩
    cases hh : Vbrgad.has t kd with
    | true =>
     refine iteF ⟨_, _, rfl, ?_, hd2, hk2⟩
     rw [hstep]
     unfold grow1
     rw [if_pos hh]; exact hg2
    | false =>
     obtain ⟨M, hM⟩ : ∃ M : Nat, M = t + 2 ^ kd := ⟨_, rfl⟩
     have hor : Builtin.bitOr (t : Int) ((2 ^ kd : Nat) : Int) = (M : Int) := by rw [bitOr_nat, or_two_pow hh, hM]
     refine iteT ⟨_, rfl, _, rfl, kd, rfl, (by omega), _, _, rfl, rfl, ?_⟩
     show (_ : TS) _ [some (V.ref d), some (V.ref kk), some (V.ref g), some (V.int (t : Int)), some (V.int (c : Int)), some (V.int (kd : Int)), some (V.int (Builtin.bitOr (t : Int) ((2 ^ kd : Nat) : Int)))] H2
     rw [hor]
     refine ⟨_, rfl, g, rfl, .inl ⟨_, .of hg2⟩, _, rfl, _, DGet.k (k := Sum.inl (M : Int)) hg2, _, rfl, ((val G M : Nat) : Int), (c : Int), kvW_getD hG _, rfl, ?_⟩
     refine ⟨_, rfl, _, rfl, g, _, rfl, DPut.k (k := Sum.inl (M : Int)) hg2 ?_, _, _, rfl, ?_, ?_, ?_⟩
     ·unfold kvW
      rw [List.length_map]
      exact line1M (by have := hG.length_le; omega)
     ·rw [upd_same]
      have e : ((val G M : Nat) : Int) + (c : Int) = ((val G M + c : Nat) : Int) := by omega
      show some (HO.dK (putK (kvW G) (Sum.inl (M : Int)) (V.int (((val G M : Nat) : Int) + (c : Int))))) = _
      rw [e, kvW_put, hstep]
      unfold grow1
      rw [hh, ← hM]; rfl
     ·rw [upd_ne (ne_of hd2 hg2 (by intro z; cases z))]; exact hd2
     ·intro b o e hb
      rw [upd_ne (ne_of_none e hg)]; exact hk2 b o e hb
   ·rintro σ H2 ⟨v5, v6, rfl, hg2, hd2, hk2⟩
    have e : (nI ks).length = ks.length := by unfold nI; rw [List.length_map]
    rw [e, List.take_length] at hg2
    refine ⟨_, _, _, _, rfl, ?_, hd2, hk2⟩
    rw [take_succ_foldl _ _ hp]; exact hg2
  ·rintro σ H2 ⟨v3, v4, v5, v6, rfl, hg2, hd2, hk2⟩
   have e : (kvW ws).length = ws.length := by unfold kvW; rw [List.length_map]
   rw [e, List.take_length] at hg2
   refine ⟨hd2, _, rfl, ?_⟩
   refine k _ g (fun b o eb => ?_) hg ?_
   ·by_cases hb : b = d
    ·subst hb; rw [upd_same, ← hd]; exact eb
    ·rw [upd_ne hb]; exact hk2 b o eb hb
   ·rw [upd_ne (fun z => hgd z.symm)]; exact hg2
def LeftAt (H : Hp) (x : Addr) (left : List (List Nat)) : Prop := ∃ rs : List Addr, H x = some (.lst (rs.map V.ref)) ∧ Paired (fun r (ks : List Nat) => H r = some (.lst (nI ks))) rs left
theorem LeftAt.same {H H' : Hp} {x : Addr} {left : List (List Nat)} (h : LeftAt H x left) (s : Same H H') : LeftAt H' x left := by
 obtain ⟨rs, h1, h2⟩ := h
 exact ⟨rs, s _ _ h1, Paired.mapP h2 fun r ks e => s _ _ e⟩
def WaysAt (H : Hp) (x : Addr) (wss : List Ws) : Prop := ∃ rs : List Addr, H x = some (.lst (rs.map V.ref)) ∧ Paired (fun r (ws : Ws) => H r = some (.dK (kvW ws))) rs wss
theorem WaysAt.same {H H' : Hp} {x : Addr} {wss : List Ws} (h : WaysAt H x wss) (s : Same H H') : WaysAt H' x wss := by
 obtain ⟨rs, h1, h2⟩ := h
 exact ⟨rs, s _ _ h1, Paired.mapP h2 fun r ks e => s _ _ e⟩
theorem WaysAt.at {H : Hp} {x : Addr} {wss : List Ws} (h : WaysAt H x wss) {i : Nat} {ws : Ws} (e : wss[i]? = some ws) : ∃ (rs : List Addr) (r : Addr), H x = some (.lst (rs.map V.ref)) ∧ rs.length = wss.length ∧ rs[i]? = some r ∧ H r = some (.dK (kvW ws)) := by
 obtain ⟨rs, h1, h2⟩ := h
 have hl := Paired.length h2
 have hi : i < rs.length := by have := (List.getElem?_eq_some_iff.mp e).1; omega
 obtain ⟨ws', e2, h3⟩ := paired_get h2 (List.getElem?_eq_getElem hi)
 rw [e] at e2
 cases e2
 exact ⟨rs, rs[i], h1, hl, List.getElem?_eq_getElem hi, h3⟩
def stepsOf (left : List (List Nat)) : List Ws := (List.range (left.length + 1)).map fun i => takes (left.take i)
theorem atI_end {α : Type} {xs : List α} {i : Nat} {v : α} (hl : xs.length = i + 1) (h : xs[i]? = some v) : atI xs (-1) = some v := by
 unfold atI
 have e : ixN xs.length (-1) = some i := by
  unfold ixN
  rw [hl, if_neg (by decide), if_pos (by omega)]
  congr 1
  omega
 rw [e]; exact h
theorem range_map_at {β : Type} (f : Nat → β) {n i : Nat} (h : i < n) : ((List.range n).map f)[i]? = some (f i) := by rw [List.getElem?_map, List.getElem?_range h]; rfl
theorem takes_snoc {left : List (List Nat)} {i : Nat} {ks : List Nat} (h : left[i]? = some ks) : takes (left.take (i + 1)) = grow (takes (left.take i)) ks := take_succ_foldl grow [(0, 1)] h
def sp_ways_to_take : Sp := fun vs H Q _ => ∃ (left : List (List Nat)) (n : Nat) (x : Addr), vs = [.ref x] ∧ LeftAt H x left ∧ n ≤ 10 ∧ left.length ≤ 100 ∧ (∀ ks ∈ left, ∀ k ∈ ks, k < n) ∧
 ∀ H' p, Same H H' → H p = none → WaysAt H' p (stepsOf left) → Q (.ref p) H'
theorem ok_ways_to_take (T : Txt K mg a) : FnOk P w K mg base CX0 3 a.f_ways_to_take a.d_ways_to_take ["left"] sp_ways_to_take := by
 refine T.ways_to_take.F.ok sc_ways_to_take (fun vs H Q E h => ?_) (fun cdv A outer s H vs Q E hr h => ?_)
 ·obtain ⟨left, n, x, rfl, _⟩ := h; rfl
 ·obtain ⟨left, n, x, rfl, ⟨rs, hx, hP⟩, hn, hlen, hks, k⟩ := h
  refine ⟨_, (@pss_cons _ _ _ _ _ (@ps_set _ _ 1 _ _ _ _ sc_ways_to_take.nd rfl (.inl rfl) (@pe_lst _ _ _ _ (@pa_cons _ _ _ _ _ (@pe_disp _ _ _ _ _ (pps_cons pe_int pe_int pps_nil) rfl rfl (by decide) (by decide)) (@pa_nil _) rfl)) rfl (.inl rfl))
   (pss_cons (ps_for PassesOwn.never rfl (pi_list (pv 0)) (pg_name (i := 2) sc_ways_to_take.nd rfl (.inl rfl))
    (pss_one (ps_expr (pe_bm PySem.F.plainAttrs_list PySem.F.slot_list_append PySem.F.type_list_append mt_append (pv 1) (pa_cons (pe_call (ok_ways_with_one_more T) (hr.mono (by decide)) rfl T.ways_with_one_more.m T.ways_with_one_more.F.kp T.ways_with_one_more.b .nil pass0 (pa_cons (pe_ix (ixk_list K rfl) (pv 1) (pe_un un_neg pe_int) (fun _ _ => rfl)) (pa_cons (pv 2) pa_nil))) pa_nil)))))
   (pss_one (ps_ret (pv 1))))), ?_⟩
  intro d0 hd0
  refine ⟨upd_same, [(Sum.inl 0, V.int 1)], rfl, (by show 1 ≤ 15; decide), (by show 1 ≤ sizeLine; decide), fun p hp => ?_⟩
  have s0 : Same H (upd (upd H d0 (.dK [])) d0 (.dK (mergeK [] [(Sum.inl 0, V.int 1)]))) := fun b o e => by
   rw [upd_ne (ne_of_none e hd0), upd_ne (ne_of_none e hd0)]; exact e
  have hpH : H p = none := s0.free hp
  have s1 := s0.trans (Same.new (o := .lst [V.ref d0]) hp)
  have hlr := Paired.length hP
  refine ⟨_, rfl, x, rfl, ⟨_, .of (s1 _ _ hx)⟩, for_list (K := K) (a := x) (xs := rs.map V.ref) (fun i σ H' => ∃ (v2 : Option V) (qs : List Addr), σ = [some (.ref x), some (.ref p), v2] ∧ H' p = some (.lst (qs.map V.ref)) ∧
   Paired (fun r (ws : Ws) => H' r = some (.dK (kvW ws))) qs ((List.range (i + 1)).map fun j => takes (left.take j)) ∧ Same H H')
   ⟨none, [d0], rfl, upd_same, .cons ?_ .nil, s1⟩ (fun i σ H' _ ⟨_, _, _, _, _, h⟩ => .of (h _ _ hx)) ?_ ?_⟩
  ·have hne : d0 ≠ p := ne_of_none upd_same hp
   rw [upd_ne hne, upd_same]; rfl
  ·rintro i y σ H' hi ⟨v2, qs, rfl, hp', hQ', hs⟩
   obtain ⟨r, hr1, rfl⟩ := map_at hi
   obtain ⟨ks, hk1, hk2⟩ := paired_get hP hr1
   have hmem : ks ∈ left := List.mem_of_getElem? hk1
   have hil : i < left.length := (List.getElem?_eq_some_iff.mp hk1).1
   have hql := Paired.length hQ'
   rw [List.length_map, List.length_range] at hql
   obtain ⟨q, hq⟩ : ∃ q, qs[i]? = some q := ⟨_, List.getElem?_eq_getElem (by omega)⟩
   obtain ⟨ws, hw1, hw2⟩ := paired_get hQ' hq
   rw [range_map_at _ (by omega)] at hw1
   cases hw1
   refine ⟨_, rfl, .inl ⟨rfl, _, .of hp'⟩, _, rfl, _, rfl, p, _, _, _, rfl, rfl, .of hp', atI_end (by rw [List.length_map, hql]) (at_map hq), _, rfl, _, ks, n, q, r, rfl, takes_ok (fun js hj => hks js (List.mem_of_mem_take hj)), hn, hks ks hmem, hw2, hs _ _ hk2, fun H2 g hs2 hgn hg => ?_⟩
   refine ⟨p, _, _, rfl, rfl, hs2 _ _ hp', (by rw [List.length_map, hql]; exact small1000 (by omega)), ?_⟩
   have hnp : ∀ r (ws : Ws), H2 r = some (.dK (kvW ws)) → r ≠ p := fun r ws e => ne_of e (hs2 _ _ hp') (by intro z; cases z)
   refine ⟨_, qs ++ [g], rfl, ?_, ?_, ?_⟩
   ·rw [upd_same, List.map_append]; rfl
   ·rw [List.range_succ, List.map_append]
    refine Paired.snoc1 (Paired.mapP hQ' fun r ws e => ?_) ?_
    ·rw [upd_ne (hnp r ws (hs2 _ _ e))]; exact hs2 _ _ e
    ·show _ = some (HO.dK (kvW (takes (left.take (i + 1)))))
     rw [takes_snoc hk1, upd_ne (hnp g _ hg)]; exact hg
   ·intro b o e
    rw [upd_ne (ne_of_none e hpH)]; exact hs2 _ _ (hs _ _ e)
  ·rintro σ H' ⟨v2, qs, rfl, hp', hQ', hs⟩
   rw [List.length_map, hlr] at hQ'
   exact ⟨_, rfl, k H' p hs hpH ⟨qs, hp', hQ'⟩⟩
theorem cut_suf (xs : List V) (l : Nat) : cutV xs (some (l : Int)) none = xs.drop l := by
 unfold cutV
 rw [HT.sIx_none, HT.sIx_nat]
 by_cases h : l ≤ xs.length
 ·rw [Nat.min_eq_left h]
  exact List.take_of_length_le (by rw [List.length_drop]; omega)
 ·rw [Nat.min_eq_right (by omega), Nat.sub_self, List.take_zero, List.drop_of_length_le (by omega)]
theorem Paired.drop {α β : Type} {F : α → β → Prop} : ∀ {l : List α} {m : List β} (i : Nat), Paired F l m → Paired F (l.drop i) (m.drop i)
 | _, _, 0, h => h
 | _, _, _ + 1, .nil => .nil
 | _, _, i + 1, .cons _ t => Paired.drop i t
theorem Paired.app {α β : Type} {F : α → β → Prop} : ∀ {l : List α} {m : List β} {l2 : List α} {m2 : List β}, Paired F l m → Paired F l2 m2 → Paired F (l ++ l2) (m ++ m2)
 | _, _, _, _, .nil, h => h
 | _, _, _, _, .cons r t, h => .cons r (Paired.app t h)
theorem Paired.rev {α β : Type} {F : α → β → Prop} : ∀ {l : List α} {m : List β}, Paired F l m → Paired F l.reverse m.reverse
 | _, _, .nil => .nil
 | _, _, .cons r t => by
  rw [List.reverse_cons, List.reverse_cons]
  exact Paired.app (Paired.rev t) (.cons r .nil)
def behindOf (left : List (List Nat)) : List Ws := (List.range left.length).map fun i => takes ((left.drop (i + 1)).reverse)
theorem behindOf_eq {left : List (List Nat)} (h : 1 ≤ left.length) : (stepsOf (left.drop 1).reverse).reverse = behindOf left := by
 unfold stepsOf behindOf
 rw [List.length_reverse, List.length_drop, show left.length - 1 + 1 = left.length by omega]
 apply List.ext_getElem?
 intro i
 by_cases hi : i < left.length
 ·rw [List.getElem?_reverse (by simpa using hi), List.length_map, List.length_range, range_map_at _ hi, range_map_at _ (by omega)]
  congr 2
  rw [List.take_reverse, List.length_drop, List.drop_drop]
  congr 2
  omega
 ·rw [List.getElem?_eq_none_iff.mpr (by simp; omega), List.getElem?_eq_none_iff.mpr (by simp; omega)]
def sp_ways_to_take_behind : Sp := fun vs H Q _ => ∃ (left : List (List Nat)) (n : Nat) (x : Addr), vs = [.ref x] ∧ LeftAt H x left ∧ n ≤ 10 ∧ 1 ≤ left.length ∧ left.length ≤ 100 ∧ (∀ ks ∈ left, ∀ k ∈ ks, k < n) ∧
 ∀ H' p, Same H H' → H p = none → WaysAt H' p (behindOf left) → Q (.ref p) H'
theorem ok_ways_to_take_behind (T : Txt K mg a) : FnOk P w K mg base CX0 4 a.f_ways_to_take_behind a.d_ways_to_take_behind ["left"] sp_ways_to_take_behind := by
 refine T.ways_to_take_behind.F.ok sc_ways_to_take_behind (fun vs H Q E h => ?_) (fun cdv A outer s H vs Q E hr h => ?_)
 ·obtain ⟨left, n, x, rfl, _⟩ := h; rfl
 ·obtain ⟨left, n, x, rfl, ⟨rs, hx, hP⟩, hn, h1, hlen, hks, k⟩ := h
  refine ⟨_, (pss_cons (ps_set (i := 1) sc_ways_to_take_behind.nd rfl (.inl rfl) (pe_call (ok_ways_to_take T) (hr.mono (by decide)) rfl T.ways_to_take.m T.ways_to_take.F.kp T.ways_to_take.b .nil pass0 (pa_cons (listrevk K rfl rfl rfl T.b_list rfl T.b_reversed (pa_cons (pe_slice (slk_list K rfl) (pv 0) (po_some pe_int) po_none) pa_nil)) pa_nil)))
   (pss_one (ps_ret (listrevk K rfl rfl rfl T.b_list rfl T.b_reversed (pa_cons (pv 1) pa_nil))))), ?_⟩
  refine ⟨_, rfl, _, rfl, x, _, rfl, .of hx, fun p1 hp1 => ⟨p1, _, rfl, .of upd_same, fun p2 hp2 => ?_⟩⟩
  have e1 : (cutV (rs.map V.ref) (some 1) none).reverse = ((rs.drop 1).reverse).map V.ref := by
   have := cut_suf (rs.map V.ref) 1
   rw [show cutV (rs.map V.ref) (some 1) none = _ from this, List.map_reverse, List.map_drop]
  have s1 := Same.new (o := .lst (cutV (rs.map V.ref) (some 1) none)) hp1
  have s2 := s1.trans (Same.new (o := .lst (cutV (rs.map V.ref) (some 1) none).reverse) hp2)
  refine ⟨(left.drop 1).reverse, n, p2, rfl, ⟨(rs.drop 1).reverse, by rw [upd_same, e1], Paired.rev (Paired.drop 1 (Paired.mapP hP fun r ks e => s2 _ _ e))⟩, hn, (by rw [List.length_reverse, List.length_drop]; omega), fun ks hk => hks ks (List.mem_of_mem_drop (List.mem_reverse.mp hk)), fun H3 p hs3 hpn hW => ?_⟩
  obtain ⟨qs, hq1, hq2⟩ := hW
  refine ⟨_, rfl, p, _, rfl, .of hq1, fun p4 hp4 => ?_⟩
  have s3 := s2.trans hs3
  have s4 := Same.new (o := .lst ((qs.map V.ref).reverse)) hp4
  refine k _ p4 (s3.trans s4) (s3.free hp4) ⟨qs.reverse, by rw [upd_same, List.map_reverse], ?_⟩
  rw [← behindOf_eq h1]
  exact Paired.rev (Paired.mapP hq2 fun r ws e => s4 _ _ e)
end UK
set_option Elab.async false
set_option linter.all false
set_option maxRecDepth 100000
set_option maxHeartbeats 4000000
namespace UK
open PySem PySem.Spec PyProof.Rows L2
variable {P : Program} {w : World} {K : PySem.W.Frag} {mg : Str → Option Value} {base : Heap} {a : Ads}
theorem ixN_at {n l : Nat} (h : l < n) : ixN n (l : Int) = some l := by
 unfold ixN
 rw [if_pos (by omega), if_pos (by omega), Int.toNat_natCast]
theorem flat_rep {α : Type} (x : α) : ∀ n : Nat, (List.replicate n [x]).flatten = List.replicate n x
 | 0 => rfl
 | n + 1 => by rw [List.replicate_succ, List.flatten_cons, flat_rep x n, List.replicate_succ]; rfl
theorem getD_at {l : List Nat} {i : Nat} (h : i < l.length) : l[i]? = some (l.getD i 0) := by
 rw [List.getD_eq_getElem?_getD, List.getElem?_eq_getElem h]; rfl
theorem nI_set (l : List Nat) (i x : Nat) : (nI l).set i (V.int (x : Int)) = nI (l.set i x) := by unfold nI; rw [List.map_set]
def sp_pairings_of_look : Sp := fun vs H Q _ => ∃ (n : Nat) (ks : List Nat) (bef beh : Ws) (kk d b : Addr), vs = [.ref kk, .ref d, .ref b, .int n] ∧ n ≤ 10 ∧ WsOk n bef ∧ WsOk n beh ∧ (∀ p ∈ bef, p.2 ≤ 10000000000) ∧ (∀ k ∈ ks, k < n) ∧
 H kk = some (.lst (nI ks)) ∧ H d = some (.dK (kvW bef)) ∧ H b = some (.dK (kvW beh)) ∧ ∀ H' p, Same H H' → H p = none → H' p = some (.lst (nI (numsOf n ks bef beh))) → Q (.ref p) H'
theorem ok_pairings_of_look (T : Txt K mg a) : FnOk P w K mg base CX0 2 a.f_pairings_of_look a.d_pairings_of_look ["kinds", "before", "behind", "how_many"] sp_pairings_of_look := by
 refine T.pairings_of_look.F.ok sc_pairings_of_look (fun vs H Q E h => ?_) (fun cdv A outer s H vs Q E hr h => ?_)
 ·obtain ⟨n, ks, bef, beh, kk, d, b, rfl, _⟩ := h; rfl
 ·obtain ⟨n, ks, bef, beh, kk, d, b, rfl, hn, hok, hok2, hsm, hks, hkk, hd, hb, k⟩ := h
  refine ⟨_, (pss_cons (ps_set (i := 4) sc_pairings_of_look.nd rfl (.inl rfl) (pe_op op_rep (pe_lst (pa_cons pe_int pa_nil)) (pv 3)))
   (pss_cons (ps_lock (ps_for PassesOwn.never rfl (pi_items (pv 1)) (tupk K rfl (n := 2) rfl (pgs_cons (pg_name (i := 5) sc_pairings_of_look.nd rfl (.inl rfl)) (pgs_cons (pg_name (i := 6) sc_pairings_of_look.nd rfl (.inl rfl)) pgs_nil)))
    (pss_cons (ps_set (i := 7) sc_pairings_of_look.nd rfl (.inl rfl) (pe_op op_sub (pe_call (ok_all_of T) (hr.mono (by decide)) rfl T.all_of.m T.all_of.F.kp T.all_of.b .nil pass0 (pa_cons (pv 3) pa_nil)) (pv 5)))
   (pss_one (ps_for PassesOwn.never rfl (pi_list (pv 0)) (pg_name (i := 8) sc_pairings_of_look.nd rfl (.inl rfl))
    (pss_one (ps_if (pt_val (pe_call (ok_has_member T) (hr.mono (by decide)) rfl T.has_member.m T.has_member.F.kp T.has_member.b .nil pass0 (pa_cons (pv 7) (pa_cons (pv 8) pa_nil))))
    (pss_one (ps_asg (pe_op op_add (pe_ix (ixk_list K rfl) (pv 4) (pv 8) (fun _ _ => rfl)) (pe_op op_mul (pv 6) (pe_dget2 (hu_of hr) (pv 2) (pe_op op_sub (pv 7) (pe_call (ok_set_of T) (hr.mono (by decide)) rfl T.set_of.m T.set_of.F.kp T.set_of.b .nil pass0 (pa_cons (pv 8) pa_nil))) pe_int ⟨rfl, rfl, rfl, rfl⟩))) (pg_sub (pv 4) (pv 8) set_list)))
    pss_nil)))))))
   (pss_one (ps_ret (pv 4))))), ?_⟩
  refine ⟨(by show 1 ≤ sizeLine; decide), fun z hz => ⟨_, rfl, z, _, _, rfl, rfl, upd_same, (by omega), (by omega), ?_, fun p hp => ?_⟩⟩
  ·rw [Int.toNat_natCast]
   show 1 * n ≤ sizeLine
   exact Nat.le_of_lt (small1000 (by omega))
  rw [Int.toNat_natCast, flat_rep] at *
  have s0 := Same.new (o := .lst [V.int 0]) hz
  have hpH : H p = none := s0.free hp
  have s1 := s0.trans (Same.new (o := .lst (List.replicate n (V.int 0))) hp)
  have hkd : kk ≠ d := ne_of hkk hd (by intro z; cases z)
  have hpd : p ≠ d := fun z => by rw [z, hd] at hpH; cases hpH
  have rdB : ∀ (od : Obj) (H2 : Hp), Kp H H2 d → H2 d = some (.frz od (.dK (kvW bef))) → Rd H2 b (.dK (kvW beh)) := fun od H2 h1 h2 => by
   by_cases e : b = d
   ·subst e
    have e2 : some (HO.dK (kvW beh)) = some (HO.dK (kvW bef)) := hb.symm.trans hd
    injection e2 with e2
    injection e2 with e2
    rw [e2]
    exact .inr ⟨od, h2⟩
   ·exact .inl (h1 _ _ hb e)
  have hkk' : ∀ H2, Kp H H2 d → SqL K H2 kk (nI ks) := fun H2 h2 => .of (h2 _ _ hkk hkd)
  refine ⟨d, _, s1 _ _ hd, trivial, fun od => ⟨_, rfl, d, od, _, rfl, upd_same, ?_⟩⟩
  refine for_items (fun i σ H' => ∃ v5 v6 v7 v8 : Option V, σ = [some (.ref kk), some (.ref d), some (.ref b), some (.int (n : Int)), some (.ref p), v5, v6, v7, v8] ∧ H' p = some (.lst (nI (numsOf n ks (bef.take i) beh))) ∧
   H' d = some (.frz od (.dK (kvW bef))) ∧ Kp H H' d) ⟨none, none, none, none, rfl, ?_, upd_same, ?_⟩ (fun i σ H' _ ⟨_, _, _, _, _, _, h, _⟩ => h) ?_ ?_
  ·rw [upd_ne hpd, upd_same]
   show _ = some (HO.lst (nI (List.replicate n 0)))
   unfold nI
   rw [List.map_replicate]; rfl
  ·intro b' o e hb'
   rw [upd_ne hb']; exact s1 _ _ e
  ·rintro i key v T0 σ H' hi hT ⟨v5, v6, v7, v8, rfl, hp', hd', hk'⟩
   obtain ⟨⟨t, c⟩, hq, e⟩ := map_at hi
   cases e
   have hmem : (t, c) ∈ bef := List.mem_of_getElem? hq
   have ht : t < 2 ^ n := hok.lt _ hmem
   have hc : c ≤ 10000000000 := hsm _ hmem
   have hTp : p ≠ T0 := ne_of_none hp' hT
   have hTd : d ≠ T0 := ne_of_none hd' hT
   obtain ⟨F, hF⟩ : ∃ F : Nat, F = 2 ^ n - 1 - t := ⟨_, rfl⟩
   have hFi : ((2 ^ n - 1 : Nat) : Int) - (t : Int) = (F : Int) := by omega
   have hk2 : Kp H (upd H' T0 (.tup [kV (Sum.inl (t : Int)), V.int (c : Int)])) d := hk'.trans (Kp.ofSame (Same.new hT))
   refine ⟨T0, _, rfl, .of upd_same, rfl, _, _, rfl, _, _, rfl, rfl, ?_⟩
   refine ⟨_, rfl, n, rfl, (by omega), _, rfl, _, _, rfl, rfl, ?_⟩
   show (_ : TS) _ [some (V.ref kk), some (V.ref d), some (V.ref b), some (V.int (n : Int)), some (V.ref p), some (V.int (t : Int)), some (V.int (c : Int)), some (V.int (((2 ^ n - 1 : Nat) : Int) - (t : Int))), v8] _
   rw [hFi]
   have hN0 : (numsOf n ks (bef.take i) beh).length = n := by unfold numsOf; rw [addAll_length]; simp
   have hstep0 : numsOf n ks (bef.take (i + 1)) beh = ks.foldl (addK n beh t c) (numsOf n ks (bef.take i) beh) := take_succ_foldl _ _ hq
   generalize numsOf n ks (bef.take i) beh = N0 at hp' hN0 hstep0
   refine ⟨_, rfl, kk, rfl, ⟨_, hkk' _ hk2⟩, for_list (K := K) (a := kk) (xs := nI ks) (fun j σ H' => ∃ v8 : Option V, σ = [some (V.ref kk), some (V.ref d), some (V.ref b), some (V.int (n : Int)), some (V.ref p), some (V.int (t : Int)), some (V.int (c : Int)), some (V.int (F : Int)), v8] ∧
    H' p = some (.lst (nI ((ks.take j).foldl (addK n beh t c) N0))) ∧ H' d = some (.frz od (.dK (kvW bef))) ∧ Kp H H' d) ⟨v8, rfl, ?_, ?_, hk2⟩ (fun j σ H2 _ ⟨_, _, _, _, h⟩ => hkk' _ h) ?_ ?_⟩
   ·rw [upd_ne hTp]; exact hp'
   ·rw [upd_ne hTd]; exact hd'
   ·rintro j y σ H2 hj ⟨v8, rfl, hp2, hd2, hk2⟩
    obtain ⟨kd, hkd2, rfl⟩ := map_at hj
    have hkn : kd < n := hks kd (List.mem_of_getElem? hkd2)
    have hGl : ((ks.take j).foldl (addK n beh t c) N0).length = n := by rw [addKs_length]; exact hN0
    have hstep : (ks.take (j + 1)).foldl (addK n beh t c) N0 = addK n beh t c ((ks.take j).foldl (addK n beh t c) N0) kd := take_succ_foldl _ _ hkd2
    generalize (ks.take j).foldl (addK n beh t c) N0 = G at hp2 hGl hstep
    refine ⟨_, rfl, _, rfl, F, kd, rfl, _, rfl, ?_⟩
    cases hh : Vbrgad.has F kd with
    | false =>
     refine iteF ⟨_, rfl, ?_, hd2, hk2⟩
     rw [hstep]
     unfold addK
     rw [← hF, hh]; exact hp2
    | true =>
     have hle : 2 ^ kd ≤ F := has_le hh
     obtain ⟨M, hM⟩ : ∃ M : Nat, M = F - 2 ^ kd := ⟨_, rfl⟩
     have hMi : (F : Int) - ((2 ^ kd : Nat) : Int) = (M : Int) := by omega
     have rd := rdB od H2 hk2 hd2
     refine iteT ⟨_, rfl, _, rfl, p, _, _, _, rfl, rfl, .of hp2, atI_nat (at_map (getD_at (by omega : kd < G.length))), _, rfl, _, rfl, b, rfl, .inl ⟨_, rd⟩, _, rfl, _, rfl, kd, rfl, (by omega), _, _, rfl, rfl, ?_⟩
     refine ⟨_, .inl ⟨_, Sum.inl ((F : Int) - ((2 ^ kd : Nat) : Int)), rd, rfl, rfl⟩, (c : Int), ((val beh M : Nat) : Int), rfl, ?_, .inl ⟨by omega, by omega⟩, _, _, rfl, rfl, _, rfl, _, rfl, p, _, _, kd, rfl, rfl, hp2, ixN_at (by rw [nI_length]; omega), _, rfl, ?_, ?_, ?_⟩
     ·rw [hMi]; exact kvW_getD hok2 _
     ·rw [upd_same, hstep]
      have e : ((G.getD kd 0 : Nat) : Int) + (c : Int) * ((val beh M : Nat) : Int) = ((G.getD kd 0 + c * val beh M : Nat) : Int) := by simp
      show some (HO.lst ((nI G).set kd (V.int (((G.getD kd 0 : Nat) : Int) + (c : Int) * ((val beh M : Nat) : Int))))) = _
      rw [e, nI_set]
      unfold addK
      rw [← hF, hh, ← hM]; rfl
     ·rw [upd_ne (fun z => hpd z.symm)]; exact hd2
     ·intro b' o e hb'
      rw [upd_ne (ne_of_none e hpH)]; exact hk2 b' o e hb'
   ·rintro σ H2 ⟨v8, rfl, hp2, hd2, hk2⟩
    rw [nI_length, List.take_length] at hp2
    refine ⟨_, _, _, _, rfl, ?_, hd2, hk2⟩
    rw [hstep0]; exact hp2
  ·rintro σ H2 ⟨v5, v6, v7, v8, rfl, hp2, hd2, hk2⟩
   have e : (kvW bef).length = bef.length := by unfold kvW; rw [List.length_map]
   rw [e, List.take_length] at hp2
   refine ⟨hd2, _, rfl, ?_⟩
   refine k _ p (fun b' o eb => ?_) hpH ?_
   ·by_cases hb' : b' = d
    ·subst hb'; rw [upd_same, ← hd]; exact eb
    ·rw [upd_ne hb']; exact hk2 b' o eb hb'
   ·rw [upd_ne hpd]; exact hp2
structure LcRef (H1 : Hp) (D : Addr) (outs : List (List Nat)) (i : Nat) (H : Hp) : Prop where
 new : H1 D = none
 same : Same H1 H
 at_ : ∃ rs : List Addr, H D = some (.lst (rs.map V.ref)) ∧ Paired (fun r (ks : List Nat) => H r = some (.lst (nI ks)) ∧ r ≠ D ∧ H1 r = none) rs (outs.take i)
theorem LcRef.start {H1 : Hp} {D : Addr} {outs : List (List Nat)} (n : H1 D = none) : LcRef H1 D outs 0 (upd H1 D (.lst [])) :=
 ⟨n, fun b o e => by rw [upd_ne (ne_of_none e n)]; exact e, [], upd_same, .nil⟩
theorem LcRef.grow {H1 H H' : Hp} {D : Addr} {outs : List (List Nat)} {i : Nat} (p : LcRef H1 D outs i H) (s : Same H H') : LcRef H1 D outs i H' := by
 obtain ⟨h1, h2, rs, h3, h4⟩ := p
 exact ⟨h1, h2.trans s, rs, s _ _ h3, Paired.mapP h4 fun r ks e => ⟨s _ _ e.1, e.2⟩⟩
theorem LcRef.yes {H1 H H4 : Hp} {D r : Addr} {outs : List (List Nat)} {i : Nat} {ks : List Nat} (p : LcRef H1 D outs i H) (s : Same H H4) (hr : H4 r = some (.lst (nI ks))) (hn : H r = none) (ho : outs[i]? = some ks) (hi : i ≤ 1000) :
  ∃ acc, H4 D = some (.lst acc) ∧ acc.length < sizeLine ∧ LcRef H1 D outs (i + 1) (upd H4 D (.lst (acc ++ [V.ref r]))) := by
 obtain ⟨h1, h2, rs, h3, h4⟩ := p
 have hrD : r ≠ D := fun z => by rw [z, h3] at hn; cases hn
 have hl := Paired.length h4
 rw [List.length_take] at hl
 refine ⟨_, s _ _ h3, ?_, h1, fun b o e => ?_, rs ++ [r], ?_, ?_⟩
 ·rw [List.length_map]
  exact line1M (by omega)
 ·rw [upd_ne (ne_of_none e h1)]; exact s _ _ (h2 _ _ e)
 ·rw [upd_same, List.map_append]; rfl
 ·rw [List.take_succ, ho]
  refine Paired.snoc1 (Paired.mapP h4 fun r ks e => ⟨?_, e.2⟩) ⟨?_, hrD, h2.free hn⟩
  ·rw [upd_ne hrD]; exact hr
  ·rw [upd_ne e.2.1]; exact s _ _ e.1
theorem LcRef.left {H1 H : Hp} {D : Addr} {outs : List (List Nat)} {i : Nat} (p : LcRef H1 D outs i H) (h : outs.length ≤ i) : LeftAt H D outs := by
 obtain ⟨h1, h2, rs, h3, h4⟩ := p
 rw [List.take_of_length_le h] at h4
 exact ⟨rs, h3, Paired.mapP h4 fun r ks e => e.1⟩
def LeftNew (H H' : Hp) (x : Addr) (left : List (List Nat)) : Prop := ∃ rs : List Addr, H' x = some (.lst (rs.map V.ref)) ∧ Paired (fun r (ks : List Nat) => H' r = some (.lst (nI ks)) ∧ H r = none) rs left
theorem LeftNew.at {H H' : Hp} {x : Addr} {left : List (List Nat)} (h : LeftNew H H' x left) : LeftAt H' x left := by
 obtain ⟨rs, h1, h2⟩ := h
 exact ⟨rs, h1, Paired.mapP h2 fun r ks e => e.1⟩
theorem LcRef.leftNew {H1 H : Hp} {D : Addr} {outs : List (List Nat)} {i : Nat} (p : LcRef H1 D outs i H) (h : outs.length ≤ i) : LeftNew H1 H D outs := by
 obtain ⟨h1, h2, rs, h3, h4⟩ := p
 rw [List.take_of_length_le h] at h4
 exact ⟨rs, h3, Paired.mapP h4 fun r ks e => ⟨e.1, e.2.2⟩⟩
theorem lcLR {K : PySem.W.Frag} {a : Addr} {xs : List V} {g : TG} {tt : TT} {te : TE} {vs : List Nat} {σ : L2.St} {H1 : Hp} {D : Addr} {Qd : Hp → Prop} (outs : List (List Nat)) (n : H1 D = none) (hl : SqL K H1 a xs)
  (hs : ∀ i x H, xs[i]? = some x → LcRef H1 D outs i H → g x (wipe σ vs) H fun σ2 H2 => wipe σ2 vs = wipe σ vs ∧ tt σ2 H2 fun b H3 =>
   if b = true then te σ2 H3 fun y H4 => ∃ acc, H4 D = some (.lst acc) ∧ acc.length < sizeLine ∧ LcRef H1 D outs (i + 1) (upd H4 D (.lst (acc ++ [y]))) else LcRef H1 D outs (i + 1) H3) (hd : ∀ H, LcRef H1 D outs xs.length H → Qd H) :
  ∃ W : Nat → Nat → Hp → Prop, (∃ m, W 0 m (upd H1 D (.lst []))) ∧ ∀ i m H, W i m H →
   ((Itl K a).stop i H ∧ Qd H) ∨ ((Itl K a).go i H ∧ ∃ Nx : Hp → Prop, (∀ H', Nx H' → ∃ m', m' < m ∧ W (i + 1) m' H') ∧ ∀ x H', (Itl K a).yld i H x H' → g x (wipe σ vs) H' fun σ2 H2 => wipe σ2 vs = wipe σ vs ∧ tt σ2 H2 fun b H3 =>
    if b = true then te σ2 H3 fun y H4 => ∃ acc, H4 D = some (.lst acc) ∧ acc.length < sizeLine ∧ Nx (upd H4 D (.lst (acc ++ [y]))) else Nx H3) :=
 lc_list (LcRef H1 D outs) (.start n) (fun i H _ p => p.same.seq hl) hs hd
theorem lcER {K : PySem.W.Frag} {a : Addr} {xs : List V} {g : TG} {tt : TT} {te : TE} {vs : List Nat} {σ : L2.St} {H1 : Hp} {D : Addr} {Qd : Hp → Prop} (outs : List (List Nat)) (n : H1 D = none) (hl : SqL K H1 a xs)
  (hs : ∀ i x H T, xs[i]? = some x → LcRef H1 D outs i H → H T = some (.tup [.int (i : Nat), x]) → g (.ref T) (wipe σ vs) H fun σ2 H2 => wipe σ2 vs = wipe σ vs ∧ tt σ2 H2 fun b H3 =>
   if b = true then te σ2 H3 fun y H4 => ∃ acc, H4 D = some (.lst acc) ∧ acc.length < sizeLine ∧ LcRef H1 D outs (i + 1) (upd H4 D (.lst (acc ++ [y]))) else LcRef H1 D outs (i + 1) H3) (hd : ∀ H, LcRef H1 D outs xs.length H → Qd H) :
  ∃ W : Nat → Nat → Hp → Prop, (∃ m, W 0 m (upd H1 D (.lst []))) ∧ ∀ i m H, W i m H →
   ((Ite K a).stop i H ∧ Qd H) ∨ ((Ite K a).go i H ∧ ∃ Nx : Hp → Prop, (∀ H', Nx H' → ∃ m', m' < m ∧ W (i + 1) m' H') ∧ ∀ x H', (Ite K a).yld i H x H' → g x (wipe σ vs) H' fun σ2 H2 => wipe σ2 vs = wipe σ vs ∧ tt σ2 H2 fun b H3 =>
    if b = true then te σ2 H3 fun y H4 => ∃ acc, H4 D = some (.lst acc) ∧ acc.length < sizeLine ∧ Nx (upd H4 D (.lst (acc ++ [y]))) else Nx H3) := by
 refine ⟨fun i m H => m = xs.length - i ∧ i ≤ xs.length ∧ LcRef H1 D outs i H, ⟨xs.length, by simp, Nat.zero_le _, .start n⟩, ?_⟩
 rintro i m H ⟨rfl, hi, p⟩
 have q := p.same.seq hl
 by_cases hlt : i < xs.length
 ·refine .inr ⟨⟨xs, xs[i], q, by simp [hlt]⟩, LcRef H1 D outs (i + 1), fun H' p' => ⟨xs.length - (i + 1), by omega, rfl, hlt, p'⟩, fun x H' y => ?_⟩
  obtain ⟨T, x', e, hT, e2, y⟩ := y
  subst e e2
  exact hs i x' _ T (y xs q) (p.grow (Same.new hT)) upd_same
 ·have e : i = xs.length := by omega
  subst e
  exact .inl ⟨⟨xs, q, Nat.le_refl _⟩, hd H p⟩
def numTable (t : Vbrgad.Table) : List (List Nat) := (List.range t.length).map fun l => (List.range t.length).map (Vbrgad.countWith t.length t l)
def sp_pairings_by_kind : Sp := fun vs H Q _ => ∃ (t : Vbrgad.Table) (x : Addr), vs = [.ref x] ∧ LeftAt H x (t.map (leftOf t.length)) ∧ 1 ≤ t.length ∧ t.length ≤ 10 ∧
 ∀ H' p, Same H H' → H p = none → LeftAt H' p (numTable t) → Q (.ref p) H'
theorem leftOf_all {n : Nat} {t : Vbrgad.Table} : ∀ ks ∈ t.map (leftOf n), ∀ k ∈ ks, k < n := fun ks hk => by
 obtain ⟨r, _, rfl⟩ := List.mem_map.mp hk
 exact leftOf_lt
theorem ok_pairings_by_kind (T : Txt K mg a) : FnOk P w K mg base CX0 5 a.f_pairings_by_kind a.d_pairings_by_kind ["left"] sp_pairings_by_kind := by
 refine T.pairings_by_kind.F.ok sc_pairings_by_kind (fun vs H Q E h => ?_) (fun cdv A outer s H vs Q E hr h => ?_)
 ·obtain ⟨t, x, rfl, _⟩ := h; rfl
 ·obtain ⟨t, x, rfl, hA, h1, h10, k⟩ := h
  have hlt : (t.map (leftOf t.length)).length = t.length := List.length_map ..
  refine ⟨_, (pss_cons (ps_set (i := 1) sc_pairings_by_kind.nd rfl (.inr rfl) (pe_call (ok_ways_to_take T) (hr.mono (by decide)) rfl T.ways_to_take.m T.ways_to_take.F.kp T.ways_to_take.b .nil pass0 (pa_cons (pv 0) pa_nil)))
   (pss_cons (ps_set (i := 2) sc_pairings_by_kind.nd rfl (.inr rfl) (pe_call (ok_ways_to_take_behind T) (hr.mono (by decide)) rfl T.ways_to_take_behind.m T.ways_to_take_behind.F.kp T.ways_to_take_behind.b .nil pass0 (pa_cons (pv 0) pa_nil)))
   (pss_cons (ps_set (i := 3) sc_pairings_by_kind.nd rfl (.inr rfl) (pe_callB (lenk K rfl) rfl T.b_len boot_len (pa_cons (pv 0) pa_nil)))
   (pss_one (ps_ret (pe_lc rfl sc_pairings_by_kind.nd (pi_enum rfl T.b_enumerate (pa_cons (pv 0) pa_nil)) (blkOk_by (own := [("look", 4), ("kinds", 5)]) (by kernel_rfl)) (fun _ _ _ _ _ => (tupk K rfl (n := 2) rfl (pgs_cons (pg_name (i := 4) sc_pairings_by_kind.nd rfl (.inl rfl)) (pgs_cons (pg_name (i := 5) sc_pairings_by_kind.nd rfl (.inl rfl)) pgs_nil)))) (fun _ _ _ _ _ => pts_nil) (fun _ _ _ _ _ => (pe_call (ok_pairings_of_look T) (hr.mono (by decide)) rfl T.pairings_of_look.m T.pairings_of_look.F.kp T.pairings_of_look.b .nil pass0 (pa_cons (pv 5) (pa_cons (pe_ix (ixk_list K rfl) (pv 1) (pv 4) (fun _ _ => rfl)) (pa_cons (pe_ix (ixk_list K rfl) (pv 2) (pv 4) (fun _ _ => rfl)) (pa_cons (pv 3) pa_nil)))))))))))), ?_⟩
  refine ⟨_, rfl, _, t.length, x, rfl, hA, h10, (by omega), leftOf_all, fun H1 pb s1 hpb hB1 => ?_⟩
  refine ⟨_, rfl, _, t.length, x, rfl, hA.same s1, h10, (by omega), (by omega), leftOf_all, fun H2 pc s2 hpc hC2 => ?_⟩
  have s12 := s1.trans s2
  have hA2 := hA.same s12
  have hB2 := hB1.same s2
  obtain ⟨rs, hx, hP⟩ := id hA2
  have hlr : (rs.map V.ref).length = t.length := by rw [List.length_map, Paired.length hP, hlt]
  refine ⟨_, rfl, x, _, rfl, .inl (.of hx), ?_⟩
  rw [hlr]
  refine ⟨_, rfl, x, _, rfl, .of hx, fun D hD => lcER (numTable t) hD (.of hx) ?_ ?_⟩
  ·intro i y H' T0 hy p' hT
   obtain ⟨r, hr1, rfl⟩ := map_at hy
   obtain ⟨ks, hk1, hk2⟩ := paired_get hP hr1
   obtain ⟨row, hrow, rfl⟩ := map_at hk1
   have hi : i < t.length := (List.getElem?_eq_some_iff.mp hrow).1
   have hrow' : t[i] = row := (List.getElem?_eq_some_iff.mp hrow).2
   obtain ⟨bs, rb, hb1, _, hb2, hb3⟩ := (hB2.same p'.same).at (i := i) (ws := takes ((t.map (leftOf t.length)).take i)) (range_map_at _ (by omega))
   obtain ⟨cs, rc, hc1, _, hc2, hc3⟩ := (hC2.same p'.same).at (i := i) (ws := takes (((t.map (leftOf t.length)).drop (i + 1)).reverse)) (range_map_at _ (by omega))
   refine ⟨T0, _, rfl, .of hT, rfl, _, _, rfl, _, _, rfl, rfl, rfl, tYes_if ?_⟩
   refine ⟨_, rfl, _, rfl, _, rfl, pb, _, _, _, rfl, rfl, .of hb1, atI_nat (at_map hb2), _, rfl, _, rfl, pc, _, _, _, rfl, rfl, .of hc1, atI_nat (at_map hc2), _, rfl, ?_⟩
   refine ⟨t.length, _, _, _, r, rb, rc, rfl, h10, takes_ok fun js hj => leftOf_all js (List.mem_of_mem_take hj), takes_ok fun js hj => leftOf_all js (List.mem_of_mem_drop (List.mem_reverse.mp hj)), ?_, leftOf_lt, p'.same _ _ hk2, hb3, hc3, fun H3 q s3 hq hq3 => ?_⟩
   ·rw [← List.map_take]
    exact takes_small h10 (by rw [List.length_take]; omega)
   ·refine p'.yes s3 hq3 hq ?_ (by omega)
    rw [show numTable t = _ from rfl, numTable, range_map_at _ hi, numsOf_eq leftOf_lt]
    congr 1
    refine List.map_congr_left fun kd hkd => ?_
    have := num_eq (n := t.length) hi (List.mem_range.mp hkd)
    rw [hrow'] at this
    rw [← List.map_take, ← List.map_drop]
    exact this.symm
  ·intro H' p'
   refine k H' D (s12.trans p'.same) (s12.free hD) (p'.left ?_)
   unfold numTable
   rw [List.length_map, List.length_range, hlr]; exact Nat.le_refl _
def sp_kinds_with_some : Sp := fun vs H Q _ => ∃ (ns : List Nat) (x : Addr), vs = [.ref x] ∧ H x = some (.lst (nI ns)) ∧ ns.length ≤ 1000 ∧
 ∀ H' p, Same H H' → H p = none → H' p = some (.lst (nI ((List.range ns.length).filter fun i => decide (0 < ns.getD i 0)))) → Q (.ref p) H'
theorem ok_kinds_with_some (T : Txt K mg a) : FnOk P w K mg base CX0 1 a.f_kinds_with_some a.d_kinds_with_some ["numbers"] sp_kinds_with_some := by
 refine T.kinds_with_some.F.ok sc_kinds_with_some (fun vs H Q E h => ?_) (fun cdv A outer s H vs Q E hr h => ?_)
 ·obtain ⟨t, x, rfl, _⟩ := h; rfl
 ·obtain ⟨ns, x, rfl, hx, hl, k⟩ := h
  refine ⟨_, (pss_one (ps_ret (pe_lc rfl sc_kinds_with_some.nd (pi_enum rfl T.b_enumerate (pa_cons (pv 0) pa_nil)) (blkOk_by (own := [("kind", 1), ("number", 2)]) (by kernel_rfl)) (fun _ _ _ _ _ => (tupk K rfl (n := 2) rfl (pgs_cons (pg_name (i := 1) sc_kinds_with_some.nd rfl (.inl rfl)) (pgs_cons (pg_name (i := 2) sc_kinds_with_some.nd rfl (.inl rfl)) pgs_nil)))) (fun _ _ _ _ _ => (pts_one (pt_cmpR op_gt (pv 2) pe_int (nomark _)))) (fun _ _ _ _ _ => (pv 1))))), ?_⟩
  refine ⟨_, rfl, x, _, rfl, .of hx, fun D hD => lcE (fun i => decide (0 < ns.getD i 0)) (fun i => V.int (i : Nat)) hD (.of hx) ?_ ?_⟩
  ·intro i y H' T0 hy p' hT
   obtain ⟨n, hn, rfl⟩ := map_at hy
   have hg : ns.getD i 0 = n := by rw [List.getD_eq_getElem?_getD, hn]; rfl
   refine ⟨T0, _, rfl, .of hT, rfl, _, _, rfl, _, _, rfl, rfl, rfl, _, rfl, _, _, rfl, rfl, _, rfl, ?_⟩
   have e : decide ((0 : Int) < (n : Int)) = decide (0 < ns.getD i 0) := by rw [hg]; exact decide_eq_decide.mpr (by omega)
   show if decide ((0 : Int) < (n : Int)) = true then _ else _
   rw [e]
   refine iteC (fun h1 => ?_) (fun h1 => ?_)
   ·refine ⟨_, rfl, p'.yes (Same.refl _) h1 rfl ?_⟩
    have := (List.getElem?_eq_some_iff.mp hn).1; omega
   ·exact p'.no (Same.refl _) h1
  ·intro H' hs hd
   rw [nI_length] at hd
   exact k H' D hs hD hd
def possTable (t : Vbrgad.Table) : List (List Nat) := (List.range t.length).map fun l => (List.range t.length).filter (Vbrgad.possible t.length t l)
def sp_possible_kinds : Sp := fun vs H Q _ => ∃ (t : Vbrgad.Table) (x : Addr), vs = [.ref x] ∧ LeftAt H x (t.map (leftOf t.length)) ∧ 1 ≤ t.length ∧ t.length ≤ 10 ∧
 ∀ H' p, Same H H' → H p = none → LeftNew H H' p (possTable t) → Q (.ref p) H'
theorem ok_possible_kinds (T : Txt K mg a) : FnOk P w K mg base CX0 6 a.f_possible_kinds a.d_possible_kinds ["left"] sp_possible_kinds := by
 refine T.possible_kinds.F.ok sc_possible_kinds (fun vs H Q E h => ?_) (fun cdv A outer s H vs Q E hr h => ?_)
 ·obtain ⟨t, x, rfl, _⟩ := h; rfl
 ·obtain ⟨t, x, rfl, hA, h1, h10, k⟩ := h
  refine ⟨_, (pss_one (ps_ret (pe_lc rfl sc_possible_kinds.nd (pi_list (pe_call (ok_pairings_by_kind T) (hr.mono (by decide)) rfl T.pairings_by_kind.m T.pairings_by_kind.F.kp T.pairings_by_kind.b .nil pass0 (pa_cons (pv 0) pa_nil))) (blkOk_by (own := [("numbers", 1)]) (by kernel_rfl)) (fun _ _ _ _ _ => (pg_name (i := 1) sc_possible_kinds.nd rfl (.inl rfl))) (fun _ _ _ _ _ => pts_nil) (fun _ _ _ _ _ => (pe_call (ok_kinds_with_some T) (hr.mono (by decide)) rfl T.kinds_with_some.m T.kinds_with_some.F.kp T.kinds_with_some.b .nil pass0 (pa_cons (pv 1) pa_nil)))))), ?_⟩
  refine ⟨_, rfl, t, x, rfl, hA, h1, h10, fun H1 pn s1 hpn hN => ?_⟩
  obtain ⟨rs, hx, hP⟩ := hN
  have hlr : (rs.map V.ref).length = t.length := by rw [List.length_map, Paired.length hP]; unfold numTable; simp
  refine ⟨pn, rfl, ⟨_, .of hx⟩, fun D hD => lcLR (possTable t) hD (.of hx) ?_ ?_⟩
  ·intro i y H' hy p'
   obtain ⟨r, hr1, rfl⟩ := map_at hy
   obtain ⟨ns, hk1, hk2⟩ := paired_get hP hr1
   have hi : i < t.length := by
    have := (List.getElem?_eq_some_iff.mp hk1).1
    unfold numTable at this; simpa using this
   unfold numTable at hk1
   rw [range_map_at _ hi] at hk1
   cases hk1
   refine ⟨rfl, tYes_if ?_⟩
   refine ⟨_, rfl, _, r, rfl, p'.same _ _ hk2, (by rw [List.length_map, List.length_range]; omega), fun H3 q s3 hq hq3 => p'.yes s3 hq3 hq ?_ (by omega)⟩
   rw [show possTable t = _ from rfl, possTable, range_map_at _ hi, List.length_map, List.length_range]
   congr 1
   refine List.filter_congr fun kd hkd => ?_
   rw [List.getD_eq_getElem?_getD, range_map_at _ (List.mem_range.mp hkd)]
   rfl
  ·intro H' p'
   obtain ⟨rs2, h3, h4⟩ := p'.leftNew (by unfold possTable; rw [List.length_map, List.length_range, hlr]; exact Nat.le_refl _)
   exact k H' D (s1.trans p'.same) (s1.free hD) ⟨rs2, h3, Paired.mapP h4 fun r ks e => ⟨e.1, s1.free e.2⟩⟩
def sp_count_pairings : Sp := fun vs H Q _ => ∃ (t : Vbrgad.Table) (x : Addr), vs = [.ref x] ∧ LeftAt H x (t.map (leftOf t.length)) ∧ t.length ≤ 10 ∧ ∀ H', Same H H' → Q (.int ((Vbrgad.count t.length t : Nat) : Int)) H'
theorem ok_count_pairings (T : Txt K mg a) : FnOk P w K mg base CX0 4 a.f_count_pairings a.d_count_pairings ["left"] sp_count_pairings := by
 refine T.count_pairings.F.ok sc_count_pairings (fun vs H Q E h => ?_) (fun cdv A outer s H vs Q E hr h => ?_)
 ·obtain ⟨t, x, rfl, _⟩ := h; rfl
 ·obtain ⟨t, x, rfl, hA, h10, k⟩ := h
  have hlt : (t.map (leftOf t.length)).length = t.length := List.length_map ..
  refine ⟨_, (pss_one (ps_ret (pe_dget2 (hu_of hr) (pe_ix (ixk_list K rfl) (pe_call (ok_ways_to_take T) (hr.mono (by decide)) rfl T.ways_to_take.m T.ways_to_take.F.kp T.ways_to_take.b .nil pass0 (pa_cons (pv 0) pa_nil)) (pe_un un_neg pe_int) (fun _ _ => rfl)) (pe_call (ok_all_of T) (hr.mono (by decide)) rfl T.all_of.m T.all_of.F.kp T.all_of.b .nil pass0 (pa_cons (pe_callB (lenk K rfl) rfl T.b_len boot_len (pa_cons (pv 0) pa_nil)) pa_nil)) pe_int ⟨rfl, rfl, rfl, rfl⟩))), ?_⟩
  refine ⟨_, rfl, _, t.length, x, rfl, hA, h10, (by omega), leftOf_all, fun H1 pb s1 hpb hB1 => ?_⟩
  obtain ⟨bs, rb, hb1, hbl, hb2, hb3⟩ := hB1.at (i := t.length) (ws := takes ((t.map (leftOf t.length)).take t.length)) (range_map_at _ (by omega))
  obtain ⟨rs, hx, hP⟩ := hA.same s1
  have hlr : (rs.map V.ref).length = t.length := by rw [List.length_map, Paired.length hP, hlt]
  have hbl2 : (bs.map V.ref).length = t.length + 1 := by rw [List.length_map, hbl]; unfold stepsOf; simp
  refine ⟨_, rfl, pb, _, _, _, rfl, rfl, .of hb1, atI_end hbl2 (at_map hb2), rb, rfl, .inl ⟨_, .of hb3⟩, _, rfl, x, _, rfl, .inl (.of hx), t.length, (by rw [hlr]; rfl), (by omega), _, DGet.k (k := Sum.inl ((2 ^ t.length - 1 : Nat) : Int)) hb3, ?_⟩
  have hok : WsOk t.length (takes ((t.map (leftOf t.length)).take t.length)) := takes_ok fun js hj => leftOf_all js (List.mem_of_mem_take hj)
  rw [kvW_getD hok, List.take_of_length_le (by omega), count_takes]
  exact k H1 s1
end UK
set_option Elab.async false
set_option linter.all false
set_option maxRecDepth 100000
set_option maxHeartbeats 4000000
namespace UK
open PySem PySem.Spec PyProof.Rows L2
variable {P : Program} {w : World} {K : PySem.W.Frag} {mg : Str → Option Value} {base : Heap} {a : Ads}
def mayW (beh : Ws) (F k : Nat) : Bool := Vbrgad.has F k && decide (0 < val beh (F - 2 ^ k))
def sp_least_kind : Sp := fun vs H Q _ => ∃ (n : Nat) (ks : List Nat) (F : Nat) (beh : Ws) (kk b : Addr) (m : Nat), vs = [.ref kk, .int F, .ref b] ∧ n ≤ 10 ∧ WsOk n beh ∧ ks.length ≤ 10 ∧ (∀ k ∈ ks, k < n) ∧ H kk = some (.lst (nI ks)) ∧ H b = some (.dK (kvW beh)) ∧
 m ∈ ks ∧ mayW beh F m = true ∧ (∀ j ∈ ks, mayW beh F j = true → m ≤ j) ∧ ∀ H', Same H H' → Q (.int m) H'
theorem ok_least_kind (T : Txt K mg a) : FnOk P w K mg base CX0 2 a.f_least_kind a.d_least_kind ["kinds", "free", "behind"] sp_least_kind := by
 refine T.least_kind.F.ok sc_least_kind (fun vs H Q E h => ?_) (fun cdv A outer s H vs Q E hr h => ?_)
 ·obtain ⟨n, ks, F, beh, kk, b, m, rfl, _⟩ := h; rfl
 ·obtain ⟨n, ks, F, beh, kk, b, m, rfl, hn, hok, hkl, hks, hkk, hb, hm, hmw, hmin, k⟩ := h
  refine ⟨_, (pss_one (ps_ret (pe_callB (mink K rfl rfl) rfl T.b_min boot_min (pa_cons (pe_lc rfl sc_least_kind.nd (pi_list (pv 0)) (blkOk_by (own := [("kind", 3)]) (by kernel_rfl)) (fun _ _ _ _ _ => (pg_name (i := 3) sc_least_kind.nd rfl (.inl rfl))) (fun _ _ _ _ _ => (pts_one (L2.PW.pt (pw_and (pt_val (pe_call (ok_has_member T) (hr.mono (by decide)) rfl T.has_member.m T.has_member.F.kp T.has_member.b .nil pass0 (pa_cons (pv 1) (pa_cons (pv 3) pa_nil)))) (pw_and1 (pt_cmp (pc_din (hu_of hr) (pe_op op_sub (pv 1) (pe_call (ok_set_of T) (hr.mono (by decide)) rfl T.set_of.m T.set_of.F.kp T.set_of.b .nil pass0 (pa_cons (pv 3) pa_nil))) (pv 2)))))))) (fun _ _ _ _ _ => (pv 3))) pa_nil)))), ?_⟩
  refine ⟨_, rfl, kk, rfl, ⟨_, .of hkk⟩, fun D hD => lcL (fun i => mayW beh F (ks.getD i 0)) (fun i => V.int ((ks.getD i 0 : Nat) : Int)) hD (.of hkk) ?_ ?_⟩
  ·intro i y H' hy p'
   obtain ⟨kd, hkd, rfl⟩ := map_at hy
   have hkn : kd < n := hks kd (List.mem_of_getElem? hkd)
   have hi : i < ks.length := (List.getElem?_eq_some_iff.mp hkd).1
   have hgi : ks.getD i 0 = kd := by rw [List.getD_eq_getElem?_getD, hkd]; rfl
   refine ⟨rfl, _, rfl, _, rfl, F, kd, rfl, _, rfl, iteC (fun h1 => ?_) (fun h1 => ?_)⟩
   ·have hle : 2 ^ kd ≤ F := has_le h1
    obtain ⟨M, hM⟩ : ∃ M : Nat, M = F - 2 ^ kd := ⟨_, rfl⟩
    have hMi : (F : Int) - ((2 ^ kd : Nat) : Int) = (M : Int) := by omega
    refine ⟨_, rfl, _, rfl, kd, rfl, (by omega), _, _, rfl, rfl, _, rfl, b, _, rfl, DGet.k (k := Sum.inl ((F : Int) - ((2 ^ kd : Nat) : Int))) (p'.same _ _ hb), _, rfl, ?_⟩
    rw [hMi, kvW_isSome hok]
    have e : mayW beh F (ks.getD i 0) = decide (0 < val beh M) := by unfold mayW; rw [hgi, h1, hM]; rfl
    rw [← e]
    refine iteC (fun h2 => ?_) (fun h2 => ?_)
    ·exact ⟨_, rfl, p'.yes (Same.refl _) h2 (by rw [hgi]) (by omega)⟩
    ·exact p'.no (Same.refl _) h2
   ·refine iteF (p'.no (Same.refl _) ?_)
    unfold mayW
    rw [hgi, h1]; rfl
  ·intro H' hs hd
   have e : H' D = some (.lst (((ks.filter (mayW beh F)).map fun (k : Nat) => (k : Int)).map V.int)) := by
    rw [hd, nI_length, List.map_map]
    rw [range_filter_map_get (mayW beh F) (fun (k : Nat) => V.int (k : Int))]
    ·rfl
    ·intro i x hx
     have e : ks.getD i 0 = x := by rw [List.getD_eq_getElem?_getD, hx]; rfl
     rw [e]; exact ⟨rfl, rfl⟩
   refine ⟨D, _, rfl, .of e, ?_, fun z hz hzm => ?_⟩
   ·rw [List.length_map]
    exact List.length_pos_of_mem (List.mem_filter.mpr ⟨hm, hmw⟩)
   ·obtain ⟨z', hz', rfl⟩ := List.mem_map.mp hz
    obtain ⟨hz1, hz2⟩ := List.mem_filter.mp hz'
    have h1 := hmin z' hz1 hz2
    have h2 := hzm (m : Int) (List.mem_map.mpr ⟨m, List.mem_filter.mpr ⟨hm, hmw⟩, rfl⟩)
    have e : z' = m := by omega
    subst e
    exact k H' hs
def sp_first_pairing : Sp := fun vs H Q _ => ∃ (t : Vbrgad.Table) (x : Addr), vs = [.ref x] ∧ LeftAt H x (t.map (leftOf t.length)) ∧ 1 ≤ t.length ∧ t.length ≤ 10 ∧ 0 < Vbrgad.count t.length t ∧
 ∀ H' p, Same H H' → H p = none → H' p = some (.lst (nI (Vbrgad.first t.length t))) → Q (.ref p) H'
theorem ok_first_pairing (T : Txt K mg a) : FnOk P w K mg base CX0 5 a.f_first_pairing a.d_first_pairing ["left"] sp_first_pairing := by
 refine T.first_pairing.F.ok sc_first_pairing (fun vs H Q E h => ?_) (fun cdv A outer s H vs Q E hr h => ?_)
 ·obtain ⟨t, x, rfl, _⟩ := h; rfl
 ·obtain ⟨t, x, rfl, hA, h1, h10, hc, k⟩ := h
  have hlt : (t.map (leftOf t.length)).length = t.length := List.length_map ..
  refine ⟨_, (pss_cons (ps_set (i := 1) sc_first_pairing.nd rfl (.inl rfl) (pe_call (ok_ways_to_take_behind T) (hr.mono (by decide)) rfl T.ways_to_take_behind.m T.ways_to_take_behind.F.kp T.ways_to_take_behind.b .nil pass0 (pa_cons (pv 0) pa_nil)))
   (pss_cons (ps_set (i := 2) sc_first_pairing.nd rfl (.inl rfl) (pe_call (ok_all_of T) (hr.mono (by decide)) rfl T.all_of.m T.all_of.F.kp T.all_of.b .nil pass0 (pa_cons (pe_callB (lenk K rfl) rfl T.b_len boot_len (pa_cons (pv 0) pa_nil)) pa_nil)))
   (pss_cons (ps_set (i := 3) sc_first_pairing.nd rfl (.inl rfl) (pe_lst pa_nil))
   (pss_cons (ps_for PassesOwn.never rfl (pi_enum rfl T.b_enumerate (pa_cons (pv 0) pa_nil)) (tupk K rfl (n := 2) rfl (pgs_cons (pg_name (i := 4) sc_first_pairing.nd rfl (.inl rfl)) (pgs_cons (pg_name (i := 5) sc_first_pairing.nd rfl (.inl rfl)) pgs_nil)))
    (pss_cons (ps_set (i := 6) sc_first_pairing.nd rfl (.inl rfl) (pe_call (ok_least_kind T) (hr.mono (by decide)) rfl T.least_kind.m T.least_kind.F.kp T.least_kind.b .nil pass0 (pa_cons (pv 5) (pa_cons (pv 2) (pa_cons (pe_ix (ixk_list K rfl) (pv 1) (pv 4) (fun _ _ => rfl)) pa_nil)))))
   (pss_cons (ps_expr (pe_bm PySem.F.plainAttrs_list PySem.F.slot_list_append PySem.F.type_list_append mt_append (pv 3) (pa_cons (pv 6) pa_nil)))
   (pss_one (ps_set (i := 2) sc_first_pairing.nd rfl (.inl rfl) (pe_op op_sub (pv 2) (pe_call (ok_set_of T) (hr.mono (by decide)) rfl T.set_of.m T.set_of.F.kp T.set_of.b .nil pass0 (pa_cons (pv 6) pa_nil))))))))
   (pss_one (ps_ret (pv 3))))))), ?_⟩
  refine ⟨_, rfl, _, t.length, x, rfl, hA, h10, (by omega), (by omega), leftOf_all, fun H1 pc s1 hpc hC1 => ?_⟩
  have hA1 := hA.same s1
  obtain ⟨rs, hx, hP⟩ := id hA1
  have hlr : (rs.map V.ref).length = t.length := by rw [List.length_map, Paired.length hP, hlt]
  refine ⟨_, rfl, x, _, rfl, .inl (.of hx), t.length, (by rw [hlr]; rfl), (by omega), ?_⟩
  refine ⟨Nat.zero_le _, fun pp hpp => ?_⟩
  have s2 := Same.new (o := .lst []) hpp
  refine ⟨_, rfl, x, _, rfl, .of (s2 _ _ hx), for_enum (K := K) (a := x) (xs := rs.map V.ref) (fun i σ H' => ∃ (v4 v5 v6 : Option V) (b : Vbrgad.Table) (F : Nat) (done : List Nat), σ = [some (.ref x), some (.ref pc), some (.int (F : Int)), some (.ref pp), v4, v5, v6] ∧
   FInv t.length t i b F ∧ 0 < Vbrgad.count t.length b ∧ H' pp = some (.lst (nI done)) ∧ done.length = i ∧ done ++ Vbrgad.firstFrom t.length (t.length - i) i b = Vbrgad.first t.length t ∧ Same H1 H')
   ⟨none, none, none, t, 2 ^ t.length - 1, [], rfl, FInv.start rfl, hc, upd_same, rfl, rfl, s2⟩ (fun i σ H' _ ⟨_, _, _, _, _, _, _, _, _, _, _, _, h⟩ => .of (h _ _ hx)) ?_ ?_⟩
  ·rintro i y T0 σ H' hi hT ⟨v4, v5, v6, b, F, done, rfl, hI, hcb, hpp', hdl, hdone, hs⟩
   obtain ⟨r, hr1, rfl⟩ := map_at hi
   obtain ⟨ks, hk1, hk2⟩ := paired_get hP hr1
   obtain ⟨row, hrow, rfl⟩ := map_at hk1
   have hit : i < t.length := (List.getElem?_eq_some_iff.mp hrow).1
   obtain ⟨k0, hk0, hf0, hF0, hm0, hmin, hI', hcb', hff⟩ := hI.next hit hrow hcb
   have s3 := Same.new (o := .tup [.int ((i : Nat) : Int), V.ref r]) hT
   have hs3 := hs.trans s3
   obtain ⟨cs, rc, hc1, _, hc2, hc3⟩ := (hC1.same hs3).at (i := i) (ws := takes (((t.map (leftOf t.length)).drop (i + 1)).reverse)) (range_map_at _ (by omega))
   have hmw : ∀ j, mayW (takes (((t.map (leftOf t.length)).drop (i + 1)).reverse)) F j = mayK t.length t i F j := fun j => by
    unfold mayW mayK
    rw [← List.map_drop, takes_rev]
   refine ⟨T0, _, rfl, .of upd_same, rfl, _, _, rfl, _, _, rfl, rfl, ?_⟩
   refine ⟨_, rfl, _, rfl, _, rfl, _, rfl, pc, _, _, _, rfl, rfl, .of hc1, atI_nat (at_map hc2), ?_⟩
   refine ⟨t.length, _, F, _, r, rc, k0, rfl, h10, takes_ok fun js hj => leftOf_all js (List.mem_of_mem_drop (List.mem_reverse.mp hj)), Nat.le_trans (leftOf_length _ _) h10, leftOf_lt, hs3 _ _ hk2, hc3,
    leftOf_mem.mpr ⟨hk0, hf0⟩, by rw [hmw]; exact hm0, fun j hj hjm => hmin j (leftOf_lt j hj) (leftOf_mem.mp hj).2 (by rw [← hmw]; exact hjm), fun H4 hs4 => ?_⟩
   have hpp4 := hs4 _ _ (s3 _ _ hpp')
   refine ⟨_, rfl, .inl ⟨rfl, _, .of hpp4⟩, _, rfl, pp, _, _, rfl, rfl, hpp4, (by rw [nI_length]; exact small1000 (by omega)), ?_⟩
   have hle : 2 ^ k0 ≤ F := has_le hF0
   refine ⟨_, rfl, _, rfl, k0, rfl, (by omega), _, _, rfl, rfl, ?_⟩
   have hFi : (F : Int) - ((2 ^ k0 : Nat) : Int) = ((F - 2 ^ k0 : Nat) : Int) := by omega
   refine ⟨_, _, _, _, F - 2 ^ k0, done ++ [k0], by rw [← hFi]; rfl, hI', hcb', ?_, by rw [List.length_append, hdl]; rfl, ?_, ?_⟩
   ·rw [upd_same]
    unfold nI
    rw [List.map_append]; rfl
   ·rw [List.append_assoc, ← hdone, show t.length - i = (t.length - (i + 1)) + 1 by omega, hff]; rfl
   ·intro b' o e
    rw [upd_ne (ne_of_none e hpp)]
    exact hs4 _ _ (hs3 _ _ e)
  ·rintro σ H' ⟨v4, v5, v6, b, F, done, rfl, hI, hcb, hpp', hdl, hdone, hs⟩
   rw [hlr, Nat.sub_self] at hdone
   have e : done = Vbrgad.first t.length t := by rw [← hdone]; exact (List.append_nil done).symm
   refine ⟨_, rfl, k H' pp (s1.trans hs) (s1.free hpp) ?_⟩
   rw [← e]; exact hpp'
end UK
set_option Elab.async false
set_option linter.all false
set_option maxRecDepth 100000
set_option maxHeartbeats 4000000
namespace UK
open PySem PySem.Spec PyProof.Rows L2
variable {P : Program} {w : World} {K : PySem.W.Frag} {mg : Str → Option Value} {base : Heap} {a : Ads}
theorem pow1024 {n : Nat} (h : n ≤ 10) : 2 ^ n ≤ 1024 := Nat.pow_le_pow_right (n := 2) (by omega) h
def ownsOf (t : Vbrgad.Table) : List Nat := t.map fun r => own t.length (flagR r)
def sp_kinds_together : Sp := fun vs H Q _ => ∃ (t : Vbrgad.Table) (x : Addr), vs = [.ref x] ∧ LeftAt H x (t.map (leftOf t.length)) ∧ t.length ≤ 10 ∧ ∀ H' p, Same H H' → H p = none → H' p = some (.lst (nI (togs (ownsOf t)))) → Q (.ref p) H'
theorem ok_kinds_together (T : Txt K mg a) : FnOk P w K mg base CX0 2 a.f_kinds_together a.d_kinds_together ["left"] sp_kinds_together := by
 refine T.kinds_together.F.ok sc_kinds_together (fun vs H Q E h => ?_) (fun cdv A outer s H vs Q E hr h => ?_)
 ·obtain ⟨t, x, rfl, _⟩ := h; rfl
 ·obtain ⟨t, x, rfl, ⟨rs, hx, hP⟩, h10, k⟩ := h
  have hol : (ownsOf t).length = t.length := List.length_map ..
  have hlr : (rs.map V.ref).length = t.length := by rw [List.length_map, Paired.length hP, List.length_map]
  refine ⟨_, (pss_cons (ps_set (i := 1) sc_kinds_together.nd rfl (.inl rfl) (pe_lst (pa_cons pe_int pa_nil)))
   (pss_cons (ps_for PassesOwn.never rfl (pi_list (pv 0)) (pg_name (i := 2) sc_kinds_together.nd rfl (.inl rfl))
    (pss_cons (ps_set (i := 3) sc_kinds_together.nd rfl (.inr rfl) (pe_callB (sumk K rfl rfl) rfl T.b_sum boot_sum (pa_cons (pe_lc rfl sc_kinds_together.nd (pi_list (pv 2)) (blkOk_by (own := [("kind", 4)]) (by kernel_rfl)) (fun _ _ _ _ _ => (pg_name (i := 4) sc_kinds_together.nd rfl (.inl rfl))) (fun _ _ _ _ _ => pts_nil) (fun _ _ _ _ _ => (pe_call (ok_set_of T) (hr.mono (by decide)) rfl T.set_of.m T.set_of.F.kp T.set_of.b .nil pass0 (pa_cons (pv 4) pa_nil)))) pa_nil)))
   (pss_one (ps_set (i := 1) sc_kinds_together.nd rfl (.inl rfl) (pe_op op_cat (pv 1) (pe_lc rfl sc_kinds_together.nd (pi_list (pv 1)) (blkOk_by (own := [("others", 5)]) (by kernel_rfl)) (fun _ _ _ _ _ => (pg_name (i := 5) sc_kinds_together.nd rfl (.inl rfl))) (fun _ _ _ _ _ => pts_nil) (fun _ _ _ _ _ => (pe_op op_or (pv 5) (pv 3)))))))))
   (pss_one (ps_ret (pv 1))))), ?_⟩
  refine ⟨(by show 1 ≤ sizeLine; decide), fun p0 hp0 => ?_⟩
  have s0 := Same.new (o := .lst [V.int 0]) hp0
  refine ⟨_, rfl, x, rfl, ⟨_, .of (s0 _ _ hx)⟩, for_list (K := K) (a := x) (xs := rs.map V.ref) (fun i σ H' => ∃ (v2 v3 v4 v5 : Option V) (tg : Addr), σ = [some (.ref x), some (.ref tg), v2, v3, v4, v5] ∧ H' tg = some (.lst (nI (togs ((ownsOf t).take i)))) ∧ H tg = none ∧ Same H H')
   ⟨none, none, none, none, p0, rfl, upd_same, hp0, s0⟩ (fun i σ H' _ ⟨_, _, _, _, _, _, _, _, h⟩ => .of (h _ _ hx)) ?_ ?_⟩
  ·rintro i y σ H' hi ⟨v2, v3, v4, v5, tg, rfl, htg, htn, hs⟩
   obtain ⟨r, hr1, rfl⟩ := map_at hi
   obtain ⟨ks, hk1, hk2⟩ := paired_get hP hr1
   obtain ⟨row, hrow, rfl⟩ := map_at hk1
   have hit : i < t.length := (List.getElem?_eq_some_iff.mp hrow).1
   have hoi : (ownsOf t)[i]? = some (own t.length (flagR row)) := at_map hrow
   refine ⟨_, rfl, r, rfl, ⟨_, .of (hs _ _ hk2)⟩, fun D hD => lcL (fun _ => true) (fun i => V.int ((2 ^ ((leftOf t.length row).getD i 0) : Nat) : Int)) hD (.of (hs _ _ hk2)) ?_ ?_⟩
   ·intro j y H2 hy p'
    obtain ⟨kd, hkd, rfl⟩ := map_at hy
    have hkn : kd < t.length := leftOf_lt kd (List.mem_of_getElem? hkd)
    have hgi : (leftOf t.length row).getD j 0 = kd := by rw [List.getD_eq_getElem?_getD, hkd]; rfl
    refine ⟨rfl, tYes_if ⟨_, rfl, kd, rfl, (by omega), p'.yes (Same.refl _) rfl (by rw [hgi]) ?_⟩⟩
    have := (List.getElem?_eq_some_iff.mp hkd).1
    have := leftOf_length t.length row
    omega
   ·intro H2 hs2 hd2
    have e : H2 D = some (.lst (((leftOf t.length row).map fun (k : Nat) => ((2 ^ k : Nat) : Int)).map V.int)) := by
     rw [hd2, nI_length, filter_tt, List.map_map]
     congr 2
     refine range_map_get _ _ _ fun i z hz => ?_
     rw [List.getD_eq_getElem?_getD, hz]; rfl
    have htg2 := hs2 _ _ htg
    refine ⟨D, _, rfl, .of e, ?_⟩
    rw [own_sum]
    have htl := ((togs_ok (ownsOf t) i (by omega)).1)
    have hpw := pow1024 h10
    have hpi : 2 ^ i ≤ 2 ^ t.length := Nat.pow_le_pow_right (by omega) (by omega)
    generalize own t.length (flagR row) = O at hoi
    refine ⟨_, rfl, _, rfl, tg, rfl, ⟨_, .of htg2⟩, fun D2 hD2 => lcL (fun _ => true) (fun j => V.int (((togs ((ownsOf t).take i)).getD j 0 ||| O : Nat) : Int)) hD2 (.of htg2) ?_ ?_⟩
    ·intro j y H3 hy p'
     obtain ⟨m, hm, rfl⟩ := map_at hy
     have hgi : (togs ((ownsOf t).take i)).getD j 0 = m := by rw [List.getD_eq_getElem?_getD, hm]; rfl
     refine ⟨rfl, tYes_if ⟨_, rfl, _, rfl, _, _, rfl, rfl, p'.yes (Same.refl _) rfl ?_ ?_⟩⟩
     ·rw [hgi, ← bitOr_nat]
     ·have := (List.getElem?_eq_some_iff.mp hm).1
      omega
    ·intro H3 hs3 hd3
     have e3 : H3 D2 = some (.lst (nI ((togs ((ownsOf t).take i)).map (· ||| O)))) := by
      rw [hd3, nI_length, filter_tt]
      unfold nI
      rw [List.map_map]
      congr 2
      refine range_map_get _ _ _ fun i z hz => ?_
      rw [List.getD_eq_getElem?_getD, hz]; rfl
     refine ⟨tg, D2, _, _, rfl, rfl, hs3 _ _ htg2, e3, ?_, fun p hp => ?_⟩
     ·rw [nI_length, nI_length, List.length_map, htl]
      exact Nat.le_of_lt (line1M (by omega))
     ·have s5 := (hs.trans (hs2.trans hs3))
      refine ⟨_, _, _, _, p, rfl, ?_, s5.free hp, s5.trans (Same.new hp)⟩
      rw [upd_same, togs_snoc hoi]
      unfold tog1 nI
      rw [List.map_append]
  ·rintro σ H' ⟨v2, v3, v4, v5, tg, rfl, htg, htn, hs⟩
   rw [hlr, List.take_of_length_le (by omega)] at htg
   exact ⟨_, rfl, k H' tg hs htn htg⟩
def sp_sizes_of_sets : Sp := fun vs H Q _ => ∃ n : Nat, vs = [.int n] ∧ n ≤ 10 ∧ ∀ H' p, Same H H' → H p = none → H' p = some (.lst (nI (szs n))) → Q (.ref p) H'
theorem ok_sizes_of_sets (T : Txt K mg a) : FnOk P w K mg base CX0 2 a.f_sizes_of_sets a.d_sizes_of_sets ["how_many"] sp_sizes_of_sets := by
 refine T.sizes_of_sets.F.ok sc_sizes_of_sets (fun vs H Q E h => ?_) (fun cdv A outer s H vs Q E hr h => ?_)
 ·obtain ⟨n, rfl, _⟩ := h; rfl
 ·obtain ⟨n, rfl, h10, k⟩ := h
  have hpw := pow1024 h10
  refine ⟨_, (pss_cons (ps_set (i := 1) sc_sizes_of_sets.nd rfl (.inl rfl) (pe_lst (pa_cons pe_int pa_nil)))
   (pss_cons (ps_while PassesOwn.never (pt_cmpR op_le (pe_callB (lenk K rfl) rfl T.b_len boot_len (pa_cons (pv 1) pa_nil)) (pe_call (ok_all_of T) (hr.mono (by decide)) rfl T.all_of.m T.all_of.F.kp T.all_of.b .nil pass0 (pa_cons (pv 0) pa_nil)) (nomark _))
    (pss_one (ps_set (i := 1) sc_sizes_of_sets.nd rfl (.inl rfl) (pe_op op_cat (pv 1) (pe_lc rfl sc_sizes_of_sets.nd (pi_list (pv 1)) (blkOk_by (own := [("size", 2)]) (by kernel_rfl)) (fun _ _ _ _ _ => (pg_name (i := 2) sc_sizes_of_sets.nd rfl (.inl rfl))) (fun _ _ _ _ _ => pts_nil) (fun _ _ _ _ _ => (pe_op op_add (pv 2) pe_int)))))))
   (pss_one (ps_ret (pv 1))))), ?_⟩
  refine ⟨(by show 1 ≤ sizeLine; decide), fun p0 hp0 => ?_⟩
  refine ⟨fun μ σ H' => ∃ (v2 : Option V) (q : Addr) (i : Nat), σ = [some (.int (n : Int)), some (.ref q), v2] ∧ i ≤ n ∧ H' q = some (.lst (nI (szs i))) ∧ H q = none ∧ Same H H' ∧ μ = n - i, ?_, ?_⟩
  ·exact ⟨n, none, p0, 0, rfl, Nat.zero_le _, upd_same, hp0, Same.new hp0, rfl⟩
  ·rintro μ σ H' ⟨v2, q, i, rfl, hi, hq, hqn, hs, rfl⟩
   have hpi : 2 ^ i ≤ 2 ^ n := Nat.pow_le_pow_right (by omega) hi
   refine ⟨_, rfl, q, _, rfl, .inl (.of hq), _, rfl, n, rfl, (by omega), _, _, rfl, rfl, _, rfl, ?_⟩
   show if decide ((((nI (szs i)).length : Nat) : Int) ≤ ((2 ^ n - 1 : Nat) : Int)) = true then _ else _
   rw [nI_length, szs_length]
   have hp2 := Nat.two_pow_pos n
   by_cases hlt : i < n
   ·have hpi2 : 2 ^ (i + 1) ≤ 2 ^ n := Nat.pow_le_pow_right (by omega) hlt
    rw [Nat.pow_succ] at hpi2
    have hp3 := Nat.two_pow_pos i
    rw [decide_eq_true (by omega)]
    refine iteT ⟨fun σ2 H2 => ∃ (v2 : Option V) (q : Addr), σ2 = [some (.int (n : Int)), some (.ref q), v2] ∧ H2 q = some (.lst (nI (szs (i + 1)))) ∧ H q = none ∧ Same H H2, ?_, ?_⟩
    ·rintro σ2 H2 ⟨v2, q, e1, e2, e3, e4⟩
     exact ⟨n - (i + 1), by omega, v2, q, i + 1, e1, hlt, e2, e3, e4, rfl⟩
    ·refine ⟨_, rfl, _, rfl, q, rfl, ⟨_, .of hq⟩, fun D hD => lcL (fun _ => true) (fun j => V.int (((szs i).getD j 0 + 1 : Nat) : Int)) hD (.of hq) ?_ ?_⟩
     ·intro j y H3 hy p'
      obtain ⟨m, hm, rfl⟩ := map_at hy
      have hgi : (szs i).getD j 0 = m := by rw [List.getD_eq_getElem?_getD, hm]; rfl
      refine ⟨rfl, tYes_if ⟨_, rfl, _, _, rfl, rfl, p'.yes (Same.refl _) rfl ?_ ?_⟩⟩
      ·rw [hgi]; rfl
      ·have := (List.getElem?_eq_some_iff.mp hm).1
       rw [szs_length] at this
       omega
     ·intro H3 hs3 hd3
      have e3 : H3 D = some (.lst (nI ((szs i).map (· + 1)))) := by
       rw [hd3, nI_length, filter_tt]
       unfold nI
       rw [List.map_map]
       congr 2
       refine range_map_get _ _ _ fun i z hz => ?_
       rw [List.getD_eq_getElem?_getD, hz]; rfl
      refine ⟨q, D, _, _, rfl, rfl, hs3 _ _ hq, e3, ?_, fun p hp => ?_⟩
      ·rw [nI_length, nI_length, List.length_map, szs_length]
       exact Nat.le_of_lt (line1M (by omega))
      ·have s5 := hs.trans hs3
       refine ⟨_, p, rfl, ?_, s5.free hp, s5.trans (Same.new hp)⟩
       rw [upd_same]
       unfold nI
       rw [szs, List.map_append]
   ·have e : i = n := by omega
    subst e
    rw [decide_eq_false (by omega)]
    exact iteF ⟨_, rfl, k H' q hs hqn hq⟩
def sp_crowded_looks : Sp := fun vs H Q _ => ∃ (t : Vbrgad.Table) (x : Addr) (l kd m0 : Nat), vs = [.ref x, .int l, .int kd] ∧ LeftAt H x (t.map (leftOf t.length)) ∧ t.length ≤ 10 ∧ l < t.length ∧ kd < t.length ∧ m0 < 2 ^ t.length ∧ crowdP t.length t l kd m0 = true ∧
 (∀ m, m < 2 ^ t.length → crowdP t.length t l kd m = true → m0 ≤ m) ∧ ∀ H' p, Same H H' → H p = none → H' p = some (.lst (nI (Vbrgad.members t.length m0))) → Q (.ref p) H'
theorem tog_at {t : Vbrgad.Table} {m : Nat} (hm : m < 2 ^ t.length) : ∃ O, (togs (ownsOf t))[m]? = some O ∧ ∀ j, j < t.length → (Vbrgad.has O j = true ↔ ∃ l, l < t.length ∧ Vbrgad.has m l = true ∧ Vbrgad.flagAt t l j = true) := by
 have hol : (ownsOf t).length = t.length := List.length_map ..
 obtain ⟨O, h1, h2⟩ := (togs_ok (ownsOf t) t.length (by omega)).2 m hm
 rw [List.take_of_length_le (by omega)] at h1
 refine ⟨O, h1, fun j hj => (h2 j).trans ?_⟩
 constructor
 ·rintro ⟨l, o, hl, hml, hlo, hoj⟩
  obtain ⟨row, hrow, rfl⟩ := map_at hlo
  rw [(own_ok _ _).2, decide_eq_true hj, Bool.true_and] at hoj
  exact ⟨l, hl, hml, by rw [flagAt_eq hrow]; exact hoj⟩
 ·rintro ⟨l, hl, hml, hf⟩
  have hrow : t[l]? = some t[l] := List.getElem?_eq_getElem hl
  refine ⟨l, own t.length (flagR t[l]), hl, hml, at_map hrow, ?_⟩
  rw [(own_ok _ _).2, decide_eq_true hj, Bool.true_and, ← flagAt_eq hrow]; exact hf
theorem ok_crowded_looks (T : Txt K mg a) : FnOk P w K mg base CX0 3 a.f_crowded_looks a.d_crowded_looks ["left", "look", "kind"] sp_crowded_looks := by
 refine T.crowded_looks.F.ok sc_crowded_looks (fun vs H Q E h => ?_) (fun cdv A outer s H vs Q E hr h => ?_)
 ·obtain ⟨t, x, l, kd, m0, rfl, _⟩ := h; rfl
 ·obtain ⟨t, x, l, kd, m0, rfl, hA, h10, hl, hkd, hm0, hc0, hmin, k⟩ := h
  have hpw := pow1024 h10
  have hol : (ownsOf t).length = t.length := List.length_map ..
  have htl : (togs (ownsOf t)).length = 2 ^ t.length := by
   have := (togs_ok (ownsOf t) t.length (by omega)).1
   rwa [List.take_of_length_le (by omega)] at this
  refine ⟨_, (pss_cons (ps_set (i := 3) sc_crowded_looks.nd rfl (.inl rfl) (pe_call (ok_kinds_together T) (hr.mono (by decide)) rfl T.kinds_together.m T.kinds_together.F.kp T.kinds_together.b .nil pass0 (pa_cons (pv 0) pa_nil)))
   (pss_cons (ps_set (i := 4) sc_crowded_looks.nd rfl (.inr rfl) (pe_call (ok_sizes_of_sets T) (hr.mono (by decide)) rfl T.sizes_of_sets.m T.sizes_of_sets.F.kp T.sizes_of_sets.b .nil pass0 (pa_cons (pe_callB (lenk K rfl) rfl T.b_len boot_len (pa_cons (pv 0) pa_nil)) pa_nil)))
   (pss_cons (ps_set (i := 5) sc_crowded_looks.nd rfl (.inr rfl) (pe_op op_sub (pe_call (ok_all_of T) (hr.mono (by decide)) rfl T.all_of.m T.all_of.F.kp T.all_of.b .nil pass0 (pa_cons (pe_callB (lenk K rfl) rfl T.b_len boot_len (pa_cons (pv 0) pa_nil)) pa_nil)) (pe_call (ok_set_of T) (hr.mono (by decide)) rfl T.set_of.m T.set_of.F.kp T.set_of.b .nil pass0 (pa_cons (pv 2) pa_nil))))
   (pss_cons (by first | exact ps_set (i := 6) sc_crowded_looks.nd rfl (.inl rfl) (pe_lc rfl sc_crowded_looks.nd (pi_enum rfl T.b_enumerate (pa_cons (pv 3) pa_nil)) (blkOk_by (own := [("looks", 7), ("kinds", 8)]) (by kernel_rfl)) (fun _ _ _ _ _ => (tupk K rfl (n := 2) rfl (pgs_cons (pg_name (i := 7) sc_crowded_looks.nd rfl (.inl rfl)) (pgs_cons (pg_name (i := 8) sc_crowded_looks.nd rfl (.inl rfl)) pgs_nil)))) (fun _ _ _ _ _ => (pts_one (L2.PW.pt (pw_and (pt_not (pt_val (pe_call (ok_has_member T) (hr.mono (by decide)) rfl T.has_member.m T.has_member.F.kp T.has_member.b .nil pass0 (pa_cons (pv 7) (pa_cons (pv 1) pa_nil))))) (pw_and1 (pt_cmpR op_lt (pe_ix (ixk_list K rfl) (pv 4) (pe_op op_and (pv 8) (pv 5)) (fun _ _ => rfl)) (pe_ix (ixk_list K rfl) (pv 4) (pv 7) (fun _ _ => rfl)) (nomark _))))))) (fun _ _ _ _ _ => (pv 7))) | exact ps_setLc (i := 6) rfl sc_crowded_looks.nd rfl rfl (sw_true rfl rfl rfl (by decide +kernel)) (pi_enum rfl T.b_enumerate (pa_cons (pv 3) pa_nil)) (blkOk_by (own := [("looks", 7), ("kinds", 8)]) (by kernel_rfl)) (fun _ _ _ _ _ => (tupk K rfl (n := 2) rfl (pgs_cons (pg_name (i := 7) sc_crowded_looks.nd rfl (.inl rfl)) (pgs_cons (pg_name (i := 8) sc_crowded_looks.nd rfl (.inl rfl)) pgs_nil)))) (fun _ _ _ _ _ => (pts_one (L2.PW.pt (pw_and (pt_not (pt_val (pe_call (ok_has_member T) (hr.mono (by decide)) rfl T.has_member.m T.has_member.F.kp T.has_member.b .nil pass0 (pa_cons (pv 7) (pa_cons (pv 1) pa_nil))))) (pw_and1 (pt_cmpR op_lt (pe_ix (ixk_list K rfl) (pv 4) (pe_op op_and (pv 8) (pv 5)) (fun _ _ => rfl)) (pe_ix (ixk_list K rfl) (pv 4) (pv 7) (fun _ _ => rfl)) (nomark _))))))) (fun _ _ _ _ _ => (pv 7)))
   (pss_one (ps_ret (pe_call (ok_members_of T) (hr.mono (by decide)) rfl T.members_of.m T.members_of.F.kp T.members_of.b .nil pass0 (pa_cons (pe_callB (mink K rfl rfl) rfl T.b_min boot_min (pa_cons (pv 6) pa_nil)) (pa_cons (pe_callB (lenk K rfl) rfl T.b_len boot_len (pa_cons (pv 0) pa_nil)) pa_nil))))))))), ?_⟩
  refine ⟨_, rfl, t, x, rfl, hA, h10, fun H1 tg s1 htn htg => ?_⟩
  obtain ⟨rs, hx, hP⟩ := hA
  have hlr : (rs.map V.ref).length = t.length := by rw [List.length_map, Paired.length hP, List.length_map]
  refine ⟨_, rfl, x, _, rfl, .inl (.of (s1 _ _ hx)), t.length, (by rw [hlr]; rfl), h10, fun H2 sz s2 hsn hsz => ?_⟩
  have s12 := s1.trans s2
  refine ⟨_, rfl, x, _, rfl, .inl (.of (s12 _ _ hx)), t.length, (by rw [hlr]; rfl), (by omega), _, rfl, kd, rfl, (by omega), _, _, rfl, rfl, ?_⟩
  have hle : 2 ^ kd ≤ 2 ^ t.length - 1 := has_le (has_full hkd)
  obtain ⟨S, hS⟩ : ∃ S : Nat, S = 2 ^ t.length - 1 - 2 ^ kd := ⟨_, rfl⟩
  have hSi : ((2 ^ t.length - 1 : Nat) : Int) - ((2 ^ kd : Nat) : Int) = (S : Int) := by omega
  dsimp only
  rw [hSi]
  have htg2 := s2 _ _ htg
  refine ⟨_, rfl, tg, _, rfl, .of htg2, fun D hD => lcE (fun m => crowdP t.length t l kd m) (fun m => V.int (m : Nat)) hD (.of htg2) ?_ ?_⟩
  ·intro m y H3 T0 hy p' hT
   obtain ⟨O, hO, rfl⟩ := map_at hy
   have hm : m < 2 ^ t.length := by have := (List.getElem?_eq_some_iff.mp hO).1; omega
   obtain ⟨O', hO', hOj⟩ := tog_at hm
   have e : O' = O := Option.some.inj (hO'.symm.trans hO)
   subst e
   refine ⟨T0, _, rfl, .of hT, rfl, _, _, rfl, _, _, rfl, rfl, rfl, _, rfl, _, rfl, m, l, rfl, _, rfl, ?_⟩
   cases hml : Vbrgad.has m l with
   | true =>
    refine iteF (iteF (p'.no (Same.refl _) ?_))
    unfold crowdP
    rw [hml]; rfl
   | false =>
    refine iteT ?_
    have hAnd : O' &&& S < 2 ^ t.length := Nat.lt_of_le_of_lt Nat.and_le_right (by rw [hS]; exact Nat.lt_of_le_of_lt (Nat.sub_le _ _) (Nat.sub_lt (Nat.two_pow_pos _) Nat.one_pos))
    have g1 := szs_get t.length (O' &&& S) hAnd
    have g2 := szs_get t.length m hm
    have hsz3 := p'.same _ _ hsz
    refine ⟨_, rfl, _, rfl, _, rfl, _, _, rfl, rfl, sz, _, _, _, rfl, rfl, .of hsz3, (by rw [bitAnd_nat]; exact atI_nat (at_map g1)), _, rfl, _, rfl, sz, _, _, _, rfl, rfl, .of hsz3, atI_nat (at_map g2), _, _, rfl, rfl, _, rfl, ?_⟩
    have e : decide (((Vbrgad.open_ t.length t m kd : Nat) : Int) < (((Vbrgad.members t.length m).length : Nat) : Int)) = crowdP t.length t l kd m := by
     unfold crowdP
     rw [hml]
     show _ = decide _
     exact decide_eq_decide.mpr (by omega)
    have e2 : card t.length (Vbrgad.has (O' &&& S)) = Vbrgad.open_ t.length t m kd := by rw [hS]; exact open_eq hkd hOj
    show if decide (((card t.length (Vbrgad.has (O' &&& S)) : Nat) : Int) < ((card t.length (Vbrgad.has m) : Nat) : Int)) = true then _ else _
    rw [e2, ← members_card, e]
    refine iteC (fun h1 => ?_) (fun h1 => ?_)
    ·exact ⟨_, rfl, p'.yes (Same.refl _) h1 rfl (by omega)⟩
    ·exact p'.no (Same.refl _) h1
  ·intro H3 hs3 hd3
   have e : H3 D = some (.lst ((((List.range (2 ^ t.length)).filter (crowdP t.length t l kd)).map fun (k : Nat) => (k : Int)).map V.int)) := by
    rw [hd3, nI_length, htl, List.map_map]; rfl
   have hmem : m0 ∈ (List.range (2 ^ t.length)).filter (crowdP t.length t l kd) := List.mem_filter.mpr ⟨List.mem_range.mpr hm0, hc0⟩
   have s13 := s12.trans hs3
   refine ⟨_, rfl, D, _, rfl, .of e, ?_, fun z hz hzm => ?_⟩
   ·rw [List.length_map]
    exact List.length_pos_of_mem hmem
   ·obtain ⟨z', hz', rfl⟩ := List.mem_map.mp hz
    obtain ⟨hz1, hz2⟩ := List.mem_filter.mp hz'
    have h1 := hmin z' (List.mem_range.mp hz1) hz2
    have h2 := hzm (m0 : Int) (List.mem_map.mpr ⟨m0, hmem, rfl⟩)
    have e : z' = m0 := by omega
    subst e
    refine ⟨_, rfl, x, _, rfl, .inl (.of (s13 _ _ hx)), z', t.length, (by rw [hlr]; rfl), (by omega), fun H4 p s4 hpn hp => ?_⟩
    exact k H4 p (s13.trans s4) (s13.free hpn) hp
end UK
set_option Elab.async false
set_option linter.all false
set_option maxRecDepth 100000
set_option maxHeartbeats 4000000
namespace UK
open PySem PySem.Spec PyProof.Rows L2
variable {P : Program} {w : World} {K : PySem.W.Frag} {mg : Str → Option Value} {base : Heap} {a : Ads}
theorem inV_nI (k : Nat) (ks : List Nat) : inV (V.int (k : Int)) (nI ks) = ks.contains k := by
 unfold inV nI
 rw [List.any_map, Bool.eq_iff_iff, List.any_eq_true, List.contains_iff_mem]
 constructor
 ·rintro ⟨x, hx, h⟩
  have h' : ((x : Int) == (k : Int)) = true := h
  rw [beq_iff_eq] at h'
  have e : x = k := by omega
  exact e ▸ hx
 ·intro h
  refine ⟨k, h, ?_⟩
  show ((k : Int) == (k : Int)) = true
  simp
theorem nI_flat (ks : List Nat) : (nI ks).all flatV = true := by
 rw [List.all_eq_true]
 intro v hv
 obtain ⟨k, _, rfl⟩ := List.mem_map.mp hv
 rfl
theorem cast_toNat (l : List Nat) : (l.map fun (k : Nat) => (k : Int)).map Int.toNat = l := by
 rw [List.map_map]
 conv => rhs; rw [← List.map_id l]
 exact List.map_congr_left fun k _ => Int.toNat_natCast k
theorem cast_nn (l : List Nat) : ∀ x ∈ l.map fun (k : Nat) => (k : Int), 0 ≤ x := fun x hx => by
 obtain ⟨k, _, rfl⟩ := List.mem_map.mp hx
 omega
def sp_does_fit : Sp := fun vs H Q _ => ∃ (t : Vbrgad.Table) (row : List Nat) (x r : Addr), vs = [.ref x, .ref r] ∧ LeftAt H x (t.map (leftOf t.length)) ∧ t.length ≤ 10 ∧ row.length ≤ 10 ∧ H r = some (.lst (nI row)) ∧ ∀ H', Same H H' → Q (.bl (Vbrgad.fits t.length t row)) H'
theorem ok_does_fit (T : Txt K mg a) : FnOk P w K mg base CX0 2 a.f_does_fit a.d_does_fit ["left", "row"] sp_does_fit := by
 refine T.does_fit.F.ok sc_does_fit (fun vs H Q E h => ?_) (fun cdv A outer s H vs Q E hr h => ?_)
 ·obtain ⟨t, row, x, r, rfl, _⟩ := h; rfl
 ·obtain ⟨t, row, x, r, rfl, ⟨rs, hx, hP⟩, h10, hr10, hrow, k⟩ := h
  have hlr : (rs.map V.ref).length = t.length := by rw [List.length_map, Paired.length hP, List.length_map]
  refine ⟨_, (pss_cons (ps_if (L2.PW.pt (pw_or (pt_cmpR op_ne (pe_callB (lenk K rfl) rfl T.b_len boot_len (pa_cons (pv 1) pa_nil)) (pe_callB (lenk K rfl) rfl T.b_len boot_len (pa_cons (pv 0) pa_nil)) (nomark _)) (pw_or1 (pt_not (pt_val (pe_call (ok_is_pairing T) (hr.mono (by decide)) rfl T.is_pairing.m T.is_pairing.F.kp T.is_pairing.b .nil pass0 (pa_cons (pv 1) pa_nil)))))))
    (pss_one (ps_ret pe_bl))
    pss_nil)
   (pss_one (ps_ret (pe_callB (allk K rfl rfl) rfl T.b_all boot_all (pa_cons (pe_lc rfl sc_does_fit.nd (pi_zip rfl T.b_zip (pa_cons (pv 1) (pa_cons (pv 0) pa_nil))) (blkOk_by (own := [("kind", 2), ("kinds", 3)]) (by kernel_rfl)) (fun _ _ _ _ _ => (tupk K rfl (n := 2) rfl (pgs_cons (pg_name (i := 2) sc_does_fit.nd rfl (.inl rfl)) (pgs_cons (pg_name (i := 3) sc_does_fit.nd rfl (.inl rfl)) pgs_nil)))) (fun _ _ _ _ _ => pts_nil) (fun _ _ _ _ _ => (pe_cmpR (ink K rfl) (pv 2) (pv 3) (by with_unfolding_all rfl)))) pa_nil))))), ?_⟩
  refine ⟨_, rfl, r, _, rfl, .inl (.of hrow), _, rfl, x, _, rfl, .inl (.of hx), rfl, _, rfl, ?_⟩
  rw [hlr, nI_length]
  have hd : (!decide (V.int ((row.length : Nat) : Int) = V.int ((t.length : Nat) : Int))) = !decide (row.length = t.length) := by
   congr 1
   exact decide_eq_decide.mpr ⟨fun q => by injection q with q; omega, fun q => by rw [q]⟩
  rw [hd]
  by_cases hl : row.length = t.length
  ·rw [decide_eq_true hl]
   refine iteF ⟨_, rfl, row.map (fun (k : Nat) => (k : Int)), r, rfl, .of (by rw [← nI_eq]; exact hrow), (by rw [List.length_map]; omega), cast_nn row, fun H1 s1 => ?_⟩
   rw [cast_toNat, List.length_map, hl]
   refine ⟨_, rfl, ?_⟩
   cases hp : Vbrgad.isPairing t.length row with
   | false =>
    refine iteT ?_
    have := k H1 s1
    rw [fits_not hp] at this
    exact this
   | true =>
    refine iteF ?_
    have hx1 := s1 _ _ hx
    have hr1 := s1 _ _ hrow
    refine ⟨_, rfl, _, rfl, r, x, _, _, rfl, .of hr1, .of hx1, fun D hD => lcZ (fun _ => true) (fun i => V.bl (((t.map (leftOf t.length)).getD i []).contains (row.getD i 0))) hD (.of hr1) (.of hx1) ?_ ?_⟩
    ·intro i y1 y2 H' T0 hy1 hy2 p' hT
     obtain ⟨kd, hkd, rfl⟩ := map_at hy1
     obtain ⟨q, hq, rfl⟩ := map_at hy2
     obtain ⟨ks, hk1, hk2⟩ := paired_get hP hq
     refine ⟨T0, _, rfl, .of hT, rfl, _, _, rfl, _, _, rfl, rfl, rfl, tYes_if ?_⟩
     refine ⟨_, rfl, _, rfl, q, _, rfl, .inl (.of (p'.same _ _ (s1 _ _ hk2))), rfl, nI_flat ks, ?_⟩
     refine p'.yes (Same.refl _) rfl ?_ ?_
     ·rw [List.getD_eq_getElem?_getD, List.getD_eq_getElem?_getD, hk1, hkd]
      show V.bl (inV (V.int (kd : Int)) (nI ks)) = _
      rw [inV_nI]; rfl
     ·have := (List.getElem?_eq_some_iff.mp hkd).1; omega
    ·intro H' hs hd
     have e : ((List.range (min (nI row).length (rs.map V.ref).length)).filter fun _ => true).map (fun i => V.bl (((t.map (leftOf t.length)).getD i []).contains (row.getD i 0))) = ((row.zip (t.map (leftOf t.length))).map fun q => q.2.contains q.1).map V.bl := by
      rw [filter_tt, nI_length, hlr, List.map_map]
      have e0 : min row.length t.length = (row.zip (t.map (leftOf t.length))).length := by rw [List.length_zip, List.length_map]
      rw [e0]
      refine range_map_get _ _ _ fun i q hq => ?_
      obtain ⟨h1, h2⟩ := List.getElem?_zip_eq_some.mp hq
      rw [List.getD_eq_getElem?_getD, List.getD_eq_getElem?_getD, h1, h2]; rfl
     rw [e] at hd
     refine ⟨D, _, rfl, .of hd, ?_⟩
     rw [← fits_iff rfl hl hp]
     exact k H' (s1.trans hs)
  ·rw [decide_eq_false hl]
   refine iteT (iteT ?_)
   have hp : Vbrgad.isPairing t.length row = false := by unfold Vbrgad.isPairing; rw [decide_eq_false hl]; rfl
   have := k H (Same.refl _)
   rw [fits_not hp] at this
   exact this
theorem kvW_nd : ∀ {ws : Ws}, (ws.map (·.1)).Nodup → ∀ T : Nat, (valV (kvW ws) (Sum.inl (T : Int))).getD (V.int 0) = V.int (val ws T : Int)
 | [], _, T => rfl
 | p :: ws, h, T => by
  have hn := List.nodup_cons.mp (show (p.1 :: ws.map (·.1)).Nodup from h)
  show (valV ((Sum.inl (p.1 : Int), V.int (p.2 : Int)) :: kvW ws) _).getD _ = _
  rw [val_cons]
  by_cases e : p.1 = T
  ·subst e
   rw [valV_pos rfl, if_pos rfl, val_out hn.1, Nat.add_zero]; rfl
  ·rw [valV_neg (fun q => e (by have := Sum.inl.inj q; omega)), kvW_nd hn.2 T, if_neg e, Nat.zero_add]
def sp_most_of_one_outcome : Sp := fun vs H Q _ => ∃ (ns row : List Nat) (x r : Addr), vs = [.ref x, .ref r] ∧ H x = some (.lst (nI ns)) ∧ H r = some (.lst (nI row)) ∧ ns.length = row.length ∧ 0 < row.length ∧ row.length ≤ 10 ∧ (∀ o ∈ row, o ≤ 9) ∧
 ∀ H', Same H H' → Q (.int ((worst ns row : Nat) : Int)) H'
theorem ok_most_of_one_outcome (T : Txt K mg a) : FnOk P w K mg base CX0 1 a.f_most_of_one_outcome a.d_most_of_one_outcome ["numbers", "row"] sp_most_of_one_outcome := by
 refine T.most_of_one_outcome.F.ok sc_most_of_one_outcome (fun vs H Q E h => ?_) (fun cdv A outer s H vs Q E hr h => ?_)
 ·obtain ⟨ns, row, x, r, rfl, _⟩ := h; rfl
 ·obtain ⟨ns, row, x, r, rfl, hx, hrr, hl, h0, h10, h9, k⟩ := h
  have hlz : (ns.zip row).length = row.length := by rw [List.length_zip]; omega
  refine ⟨_, (pss_cons (ps_set (i := 2) sc_most_of_one_outcome.nd rfl (.inl rfl) pe_dnewK)
   (pss_cons (ps_for PassesOwn.never rfl (pi_zip rfl T.b_zip (pa_cons (pv 0) (pa_cons (pv 1) pa_nil))) (tupk K rfl (n := 2) rfl (pgs_cons (pg_name (i := 3) sc_most_of_one_outcome.nd rfl (.inl rfl)) (pgs_cons (pg_name (i := 4) sc_most_of_one_outcome.nd rfl (.inl rfl)) pgs_nil)))
    (pss_one (ps_dput (hu_of hr) (pv 2) (pv 4) (pe_op op_add (pe_dget2 (hu_of hr) (pv 2) (pv 4) pe_int ⟨rfl, rfl, rfl, rfl⟩) (pv 3)) rfl)))
   (pss_one (ps_ret (pe_maxvals rfl rfl T.b_max (pv 2)))))), ?_⟩
  intro d hd
  have s0 := Same.new (o := .dK []) hd
  refine ⟨_, rfl, _, rfl, x, r, _, _, rfl, .of (s0 _ _ hx), .of (s0 _ _ hrr), for_zip (K := K) (a := x) (b := r) (xs := nI ns) (ys := nI row) (fun i σ H' => ∃ v3 v4 : Option V, σ = [some (.ref x), some (.ref r), some (.ref d), v3, v4] ∧ H' d = some (.dK (kvW (((ns.zip row).take i).foldl outs1 []))) ∧ Same H H')
   (by rw [nI_length, nI_length, hl]) ⟨none, none, rfl, upd_same, s0⟩ (fun i σ H' _ ⟨_, _, _, _, h⟩ => ⟨.of (h _ _ hx), .of (h _ _ hrr)⟩) ?_ ?_⟩
  ·rintro i y1 y2 T0 σ H' hy1 hy2 hT ⟨v3, v4, rfl, hd', hs⟩
   obtain ⟨c, hc, rfl⟩ := map_at hy1
   obtain ⟨o, ho, rfl⟩ := map_at hy2
   have hz := zip_at hc ho
   have hdT : d ≠ T0 := ne_of_none hd' hT
   obtain ⟨hnd, _, hkey⟩ := outs_ok ((ns.zip row).take i) [] List.nodup_nil
   have hstep : ((ns.zip row).take (i + 1)).foldl outs1 [] = outs1 (((ns.zip row).take i).foldl outs1 []) (c, o) := take_succ_foldl _ _ hz
   have hlen : (((ns.zip row).take i).foldl outs1 []).length ≤ 1000 := by
    have h1 : ∀ (qs : List (Nat × Nat)) (ws : Ws), (qs.foldl outs1 ws).length ≤ ws.length + qs.length := by
     intro qs
     induction qs with
     | nil => intro ws; exact Nat.le_refl _
     | cons q qs ih =>
      intro ws
      rw [List.foldl_cons]
      have h2 := ih (outs1 ws q)
      have h3 : (outs1 ws q).length ≤ ws.length + 1 := by
       unfold outs1 bump put
       split
       ·rw [List.length_map]; omega
       ·rw [List.length_append]; exact Nat.le_refl _
      rw [List.length_cons]; omega
    have := h1 ((ns.zip row).take i) []
    rw [List.length_take] at this
    have e : ([] : Ws).length = 0 := rfl
    omega
   generalize ((ns.zip row).take i).foldl outs1 [] = G at hd' hnd hstep hlen
   have hd2 : upd H' T0 (.tup [V.int (c : Int), V.int (o : Int)]) d = some (.dK (kvW G)) := by rw [upd_ne hdT]; exact hd'
   refine ⟨T0, _, rfl, .of upd_same, rfl, _, _, rfl, _, _, rfl, rfl, ?_⟩
   refine ⟨_, rfl, d, rfl, .inl ⟨_, .of hd2⟩, _, rfl, _, DGet.k (k := Sum.inl (o : Int)) hd2, _, rfl, ((val G o : Nat) : Int), (c : Int), kvW_nd hnd o, rfl, ?_⟩
   refine ⟨_, rfl, _, rfl, d, _, rfl, DPut.k (k := Sum.inl (o : Int)) hd2 ?_, _, _, rfl, ?_, ?_⟩
   ·unfold kvW
    rw [List.length_map]
    exact line1M (by omega)
   ·rw [upd_same, hstep]
    have e : ((val G o : Nat) : Int) + (c : Int) = ((val G o + c : Nat) : Int) := by omega
    show some (HO.dK (putK (kvW G) (Sum.inl (o : Int)) (V.int (((val G o : Nat) : Int) + (c : Int))))) = _
    rw [e, kvW_put]; rfl
   ·intro b' ob e
    rw [upd_ne (ne_of_none e hd)]
    exact Same.new hT _ _ (hs _ _ e)
  ·rintro σ H' ⟨v3, v4, rfl, hd', hs⟩
   rw [nI_length, List.take_of_length_le (by omega)] at hd'
   refine ⟨_, rfl, d, _, ((ns.zip row).foldl outs1 []).map (fun p => ((p.2 : Nat) : Int)), rfl, hd', ?_, ?_, fun m hm hmax => ?_⟩
   ·unfold kvW
    rw [List.map_map, List.map_map]; rfl
   ·rw [List.length_map]
    exact outs_ne (by omega) h0
   ·obtain ⟨p, hp, rfl⟩ := List.mem_map.mp hm
    have e := worst_eq (ns := ns) h9 (m := p.2) (List.mem_map_of_mem hp) fun y hy => by
     obtain ⟨q, hq, rfl⟩ := List.mem_map.mp hy
     have := hmax ((q.2 : Nat) : Int) (List.mem_map.mpr ⟨q, hq, rfl⟩)
     omega
    rw [← e]; exact k H' hs
def sp_lowest_terms : Sp := fun vs H Q _ => ∃ (p q : Nat), vs = [.int p, .int q] ∧ 0 < q ∧ p < 1073741824 ∧ q < 1073741824 ∧ ∀ H' r, Same H H' → H r = none → H' r = some (.lst (nI [p / Nat.gcd p q, q / Nat.gcd p q])) → Q (.ref r) H'
theorem ok_lowest_terms (T : Txt K mg a) : FnOk P w K mg base CX0 1 a.f_lowest_terms a.d_lowest_terms ["part", "whole"] sp_lowest_terms := by
 refine T.lowest_terms.F.ok sc_lowest_terms (fun vs H Q E h => ?_) (fun cdv A outer s H vs Q E hr h => ?_)
 ·obtain ⟨p, q, rfl, _⟩ := h; rfl
 ·obtain ⟨p, q, rfl, hq0, hp, hq, k⟩ := h
  refine ⟨_, (pss_cons (ps_set (i := 2) sc_lowest_terms.nd rfl (.inl rfl) (pv 1))
   (pss_cons (ps_set (i := 3) sc_lowest_terms.nd rfl (.inl rfl) (pv 0))
   (pss_cons (ps_while PassesOwn.never (pt_cmpR op_gt (pv 3) pe_int (nomark _))
    (pss_cons (ps_set (i := 4) sc_lowest_terms.nd rfl (.inl rfl) (pv 2))
   (pss_cons (ps_set (i := 2) sc_lowest_terms.nd rfl (.inl rfl) (pv 3))
   (pss_one (ps_set (i := 3) sc_lowest_terms.nd rfl (.inl rfl) (pe_op op_mod (pv 4) (pv 2)))))))
   (pss_one (ps_ret (pe_lst (pa_cons (pe_op op_fdiv (pv 0) (pv 2)) (pa_cons (pe_op op_fdiv (pv 1) (pv 2)) pa_nil)))))))), ?_⟩
  refine ⟨_, rfl, _, rfl, ?_⟩
  refine ⟨fun μ σ H' => ∃ (v4 : Option V) (d r : Nat), σ = [some (.int (p : Int)), some (.int (q : Int)), some (.int (d : Int)), some (.int (r : Int)), v4] ∧ 0 < d ∧ d < 1073741824 ∧ Nat.gcd r d = Nat.gcd p q ∧ H' = H ∧ μ = r ∧ r < 1073741824, ?_, ?_⟩
  ·exact ⟨p, none, q, p, rfl, hq0, hq, rfl, rfl, rfl, hp⟩
  ·rintro μ σ H' ⟨v4, d, r, rfl, hd0, hd, hg, rfl, rfl, hr30⟩
   refine ⟨_, rfl, _, _, rfl, rfl, _, rfl, ?_⟩
   show if decide ((0 : Int) < (μ : Int)) = true then _ else _
   by_cases h0 : 0 < μ
   ·rw [decide_eq_true (by omega)]
    refine iteT ⟨fun σ2 H2 => ∃ (v4 : Option V), σ2 = [some (.int (p : Int)), some (.int (q : Int)), some (.int (μ : Int)), some (.int ((d % μ : Nat) : Int)), v4] ∧ H2 = H', ?_, ?_⟩
    ·rintro σ2 H2 ⟨v4, rfl, rfl⟩
     refine ⟨d % μ, Nat.mod_lt _ h0, v4, μ, d % μ, rfl, h0, hr30, ?_, rfl, rfl, Nat.lt_trans (Nat.mod_lt _ h0) hr30⟩
     rw [← hg, Nat.gcd_rec μ d]
    ·refine ⟨_, rfl, _, rfl, _, rfl, _, rfl, _, _, rfl, rfl, (by show (0 : Int) < (μ : Int); omega), some (V.int (d : Int)), ?_, rfl⟩
     have e : (d : Int) % (μ : Int) = ((d % μ : Nat) : Int) := by simp
     rw [← e]; rfl
   ·have e0 : μ = 0 := by omega
    subst e0
    rw [Nat.gcd_zero_left] at hg
    rw [decide_eq_false (by omega)]
    refine iteF ⟨_, rfl, _, rfl, _, _, rfl, rfl, ⟨by omega, by omega⟩, _, rfl, _, rfl, _, _, rfl, rfl, ⟨by omega, by omega⟩, (by show 2 ≤ sizeLine; decide), fun z hz => ?_⟩
    refine k _ z (Same.new hz) hz ?_
    rw [upd_same, ← hg]
    have e1 : (p : Int) / (d : Int) = ((p / d : Nat) : Int) := by simp
    have e2 : (q : Int) / (d : Int) = ((q / d : Nat) : Int) := by simp
    show some (HO.lst [V.int ((p : Int) / (d : Int)), V.int ((q : Int) / (d : Int))]) = _
    rw [e1, e2]; rfl
end UK
set_option Elab.async false
set_option linter.all false
set_option maxRecDepth 100000
set_option maxHeartbeats 4000000
namespace UK
open PySem PySem.Spec PyProof.Rows L2
variable {P : Program} {w : World} {K : PySem.W.Frag} {mg : Str → Option Value} {base : Heap} {a : Ads}
def hf (tr ls ks pr ou le : Addr) (n : Nat) : List (Str × V) := [("truth", .ref tr), ("look_sorts", .ref ls), ("kind_sorts", .ref ks), ("prices", .ref pr), ("outcomes", .ref ou), ("left", .ref le), ("shown", .int (n : Int))]
def OutsAt (H : Hp) (ou : Addr) (outs : List (Option (List Nat))) : Prop := ∃ kvs : List (Key × V), H ou = some (.dK kvs) ∧ kvs.length ≤ (outs.filter Option.isSome).length ∧
 ∀ z : Nat, (∀ row, outs[z]? = some (some row) → ∃ r, valV kvs (Sum.inl (z : Int)) = some (.ref r) ∧ H r = some (.lst (nI row))) ∧ (outs[z]? = some none → valV kvs (Sum.inl (z : Int)) = none)
theorem OutsAt.same {H H' : Hp} {ou : Addr} {outs : List (Option (List Nat))} (h : OutsAt H ou outs) (s : Same H H') : OutsAt H' ou outs := by
 obtain ⟨kvs, h1, h2, h3⟩ := h
 refine ⟨kvs, s _ _ h1, h2, fun z => ⟨fun row e => ?_, (h3 z).2⟩⟩
 obtain ⟨r, e1, e2⟩ := (h3 z).1 row e
 exact ⟨r, e1, s _ _ e2⟩
structure HouseAt (C : Addr) (H : Hp) (h le ou : Addr) (s : Vbrgad.State) : Prop where
 obj : ∃ dx tr ls ks pr, H h = some (.ins C dx (hf tr ls ks pr ou le s.shown)) ∧ H tr = some (.lst (nI s.truth)) ∧ H ls = some (.lst (nI s.lookSorts)) ∧ H ks = some (.lst (nI s.kindSorts)) ∧ H pr = some (.lst (s.prices.map V.int))
 outs : OutsAt H ou s.outcomes
 left : LeftAt H le (s.allowed.map (leftOf s.truth.length))
 ok : StOk s
theorem HouseAt.same {C : Addr} {H H' : Hp} {h le ou : Addr} {s : Vbrgad.State} (x : HouseAt C H h le ou s) (e : Same H H') : HouseAt C H' h le ou s := by
 obtain ⟨⟨dx, tr, ls, ks, pr, h1, h2, h3, h3', h3''⟩, h4, h5, h6⟩ := x
 exact ⟨⟨dx, tr, ls, ks, pr, e _ _ h1, e _ _ h2, e _ _ h3, e _ _ h3', e _ _ h3''⟩, h4.same e, h5.same e, h6⟩
def HKp (H H' : Hp) (h le ou : Addr) : Prop := ∀ b o, H b = some o → b ≠ h → b ≠ le → b ≠ ou → H' b = some o
def AnsTo (C : Addr) (h le ou : Addr) (H : Hp) (r : Vbrgad.State × List Int) (Q : VK) : Prop :=
 ∀ H' p le' ou', HouseAt C H' h le' ou' r.1 → (le' = le ∨ H le' = none) → (ou' = ou ∨ H ou' = none) → HKp H H' h le ou → H' p = some (.lst (r.2.map V.int)) → H p = none → Q (.ref p) H'
theorem AnsTo.pure {C h le ou : Addr} {H H' : Hp} {s : Vbrgad.State} {ans : List Int} {Q : VK} {p : Addr} (k : AnsTo C h le ou H (s, ans) Q) (x : HouseAt C H h le ou s) (e : Same H H') (hp : H p = none) (hp' : H' p = some (.lst (ans.map V.int))) : Q (.ref p) H' :=
 k H' p le ou (x.same e) (.inl rfl) (.inl rfl) (fun b o q _ _ _ => e b o q) hp' hp
theorem AnsTo.one {C h le ou : Addr} {H : Hp} {s : Vbrgad.State} {i : Int} {Q : VK} {p : Addr} (k : AnsTo C h le ou H (s, [i]) Q) (x : HouseAt C H h le ou s) (hp : H p = none) : Q (.ref p) (upd H p (.lst [V.int i])) :=
 k.pure x (Same.new hp) hp upd_same
theorem AnsTo.shown {C h le ou : Addr} {H Hc H' : Hp} {s : Vbrgad.State} {ans : List Int} {Q : VK} {p : Addr} (k : AnsTo C h le ou H (s, ans) Q) (hs : Same H Hc) (hA : HouseAt C H' h le ou s) (hK : HKp Hc H' h le ou) (hp : H' p = none) : Q (.ref p) (upd H' p (.lst (ans.map V.int))) := by
 refine k _ p le ou (hA.same (Same.new hp)) (.inl rfl) (.inl rfl) (fun b o e b1 b2 b3 => Same.new hp _ _ (hK b o (hs _ _ e) b1 b2 b3)) upd_same ?_
 obtain ⟨dx, tr, ls, ks, pr, h1, _⟩ := hA.obj
 obtain ⟨kvs, h2, _⟩ := hA.outs
 obtain ⟨rs, h3, _⟩ := hA.left
 cases q : H p with
 | none => rfl
 | some o =>
  exfalso
  have := hK p o (hs _ _ q) (fun z => by rw [z, h1] at hp; cases hp) (fun z => by rw [z, h3] at hp; cases hp) (fun z => by rw [z, h2] at hp; cases hp)
  rw [hp] at this; cases this
theorem step_open {s : Vbrgad.State} (h : s.opened = true) (c : Vbrgad.Call) : Vbrgad.step s c = match Vbrgad.does s c with
  | .error e => (s, [e])
  | .ok (t, l) => (t, 0 :: l) := by
 unfold Vbrgad.step
 rw [if_neg (show ¬ (s.opened = false ∧ Vbrgad.isOpens c = false) from fun q => by rw [h] at q; cases q.1)]
 cases Vbrgad.does s c with
 | error e => rfl
 | ok x => rfl
theorem step_err {s : Vbrgad.State} {c : Vbrgad.Call} {e : Int} (h : s.opened = true) (hd : Vbrgad.does s c = .error e) : Vbrgad.step s c = (s, [e]) := by rw [step_open h, hd]
theorem step_ok {s t : Vbrgad.State} {c : Vbrgad.Call} {l : List Int} (h : s.opened = true) (hd : Vbrgad.does s c = .ok (t, l)) : Vbrgad.step s c = (t, 0 :: l) := by rw [step_open h, hd]
theorem init_step {H : Hp} {p x : Addr} {o u : HO} (hx : H x = none) {b : Addr} {ob : HO} (e : H b = some ob) (hb : b ≠ p) : upd (upd H x o) p u b = some ob := by rw [upd_ne hb]; exact Same.new hx _ _ e
theorem init_new {H : Hp} {p x : Addr} {o u : HO} (hx : x ≠ p) : upd (upd H x o) p u x = some o := by rw [upd_ne hx, upd_same]
theorem init_free {H : Hp} {p x b : Addr} {o u : HO} (hx : H x = none) (hb : b ≠ p) (h : upd (upd H x o) p u b = none) : H b = none := by
 cases q : H b with
 | none => rfl
 | some ob => rw [init_step hx q hb] at h; cases h
theorem init_keep {H : Hp} {p x : Addr} {o u : HO} (hx : H x = none) : Kp H (upd (upd H x o) p u) p := (Kp.ofSame (Same.new hx)).trans Kp.upd
theorem init_ne {H : Hp} {p x : Addr} {o : HO} (hp : H p = some o) (hx : H x = none) : x ≠ p := fun z => by rw [z, hp] at hx; cases hx
def sp_House_init (C : Addr) : Sp := fun vs H Q _ => ∃ (p dx : Addr), vs = [.ref p] ∧ H p = some (.ins C dx []) ∧ ∀ H' le ou, HouseAt C H' p le ou Vbrgad.start → H le = none → H ou = none → Kp H H' p → Q .non H'
theorem ok_House_init (T : Txt K mg a) : FnOk P w K mg base CX0 1 a.f_House_init a.d_House_init ["self"] (sp_House_init a.C_House) := by
 refine T.House_init.F.ok sc_House_init (fun vs H Q E h => ?_) (fun cdv A outer s H vs Q E hr h => ?_)
 ·obtain ⟨p, dx, rfl, _⟩ := h; rfl
 ·obtain ⟨p, dx, rfl, hp, k⟩ := h
  refine ⟨_, (pss_cons (ps_fld (pv 0) (pe_lst pa_nil) rfl)
   (pss_cons (ps_fld (pv 0) (pe_lst pa_nil) rfl)
   (pss_cons (ps_fld (pv 0) (pe_lst pa_nil) rfl)
   (pss_cons (ps_fld (pv 0) (pe_lst pa_nil) rfl)
   (pss_cons (ps_fld (pv 0) pe_dnewK rfl)
   (pss_cons (ps_fld (pv 0) (pe_lst pa_nil) rfl)
   (pss_one (ps_fld (pv 0) pe_int rfl)))))))), ?_⟩
  refine ⟨Nat.zero_le _, fun tr htr => ⟨_, rfl, p, _, dx, _, rfl, Same.new htr _ _ hp, T.cl_House, T.n_House_truth, (by show 0 < 1000; decide), ?_⟩⟩
  refine ⟨Nat.zero_le _, fun ls hls => ⟨_, rfl, p, _, dx, _, rfl, Same.new hls _ _ upd_same, T.cl_House, T.n_House_look_sorts, (by show 1 < 1000; decide), ?_⟩⟩
  refine ⟨Nat.zero_le _, fun ks hks => ⟨_, rfl, p, _, dx, _, rfl, Same.new hks _ _ upd_same, T.cl_House, T.n_House_kind_sorts, (by show 2 < 1000; decide), ?_⟩⟩
  refine ⟨Nat.zero_le _, fun pr hpr => ⟨_, rfl, p, _, dx, _, rfl, Same.new hpr _ _ upd_same, T.cl_House, T.n_House_prices, (by show 3 < 1000; decide), ?_⟩⟩
  refine fun ou hou => ⟨_, rfl, p, _, dx, _, rfl, Same.new hou _ _ upd_same, T.cl_House, T.n_House_outcomes, (by show 4 < 1000; decide), ?_⟩
  refine ⟨Nat.zero_le _, fun le hle => ⟨_, rfl, p, _, dx, _, rfl, Same.new hle _ _ upd_same, T.cl_House, T.n_House_left, (by show 5 < 1000; decide), ?_⟩⟩
  refine ⟨_, rfl, p, _, dx, _, rfl, upd_same, T.cl_House, T.n_House_shown, (by show 6 < 1000; decide), ?_⟩
  have ntr := init_ne hp htr
  have nls := init_ne upd_same hls
  have nks := init_ne upd_same hks
  have npr := init_ne upd_same hpr
  have nou := init_ne upd_same hou
  have nle := init_ne upd_same hle
  refine k _ le ou ⟨⟨dx, tr, ls, ks, pr, upd_same, ?_, ?_, ?_, ?_⟩, ⟨[], ?_, Nat.zero_le _, fun z => ⟨fun row e => ?_, fun _ => rfl⟩⟩, ⟨[], ?_, .nil⟩, .inl rfl⟩ ?_ ?_ ?_
  ·rw [upd_ne ntr]
   exact init_step hle (init_step hou (init_step hpr (init_step hks (init_step hls (init_new ntr) ntr) ntr) ntr) ntr) ntr
  ·rw [upd_ne nls]
   exact init_step hle (init_step hou (init_step hpr (init_step hks (init_new nls) nls) nls) nls) nls
  ·rw [upd_ne nks]
   exact init_step hle (init_step hou (init_step hpr (init_new nks) nks) nks) nks
  ·rw [upd_ne npr]
   exact init_step hle (init_step hou (init_new npr) npr) npr
  ·rw [upd_ne nou]
   exact init_step hle (init_new nou) nou
  ·exfalso
   have e' : (List.replicate 8 (none : Option (List Nat)))[z]? = some (some row) := e
   rw [List.getElem?_replicate] at e'
   split at e' <;> cases e'
  ·rw [upd_ne nle]
   exact init_new nle
  ·exact init_free htr nle (init_free hls nle (init_free hks nle (init_free hpr nle (init_free hou nle hle))))
  ·exact init_free htr nou (init_free hls nou (init_free hks nou (init_free hpr nou hou)))
  ·exact (init_keep htr).trans ((init_keep hls).trans ((init_keep hks).trans ((init_keep hpr).trans ((init_keep hou).trans ((init_keep hle).trans Kp.upd)))))
def sp_House_is_open (C : Addr) : Sp := fun vs H Q _ => ∃ (h le ou : Addr) (s : Vbrgad.State), vs = [.ref h] ∧ HouseAt C H h le ou s ∧ Q (.bl s.opened) H
theorem StOk.opened_iff {s : Vbrgad.State} (h : StOk s) : s.opened = decide (0 < s.truth.length) := by
 rcases h with rfl | h
 ·rfl
 ·rw [h.op, decide_eq_true (show 0 < s.truth.length from h.n1)]
theorem ok_House_is_open (T : Txt K mg a) : FnOk P w K mg base CX0 1 a.f_House_is_open a.d_House_is_open ["self"] (sp_House_is_open a.C_House) := by
 refine T.House_is_open.F.ok sc_House_is_open (fun vs H Q E h => ?_) (fun cdv A outer s H vs Q E hr h => ?_)
 ·obtain ⟨p, _, _, _, rfl, _⟩ := h; rfl
 ·obtain ⟨h, le, ou, s, rfl, hA, k⟩ := h
  obtain ⟨dx, tr, ls, ks, pr, hO, ht, _⟩ := hA.obj
  refine ⟨_, (pss_one (ps_ret (pe_cmpR op_gt (pe_callB (lenk K rfl) rfl T.b_len boot_len (pa_cons (fldk K rfl (pv 0) rfl) pa_nil)) pe_int (nomark _)))), ?_⟩
  refine ⟨_, rfl, h, _, dx, _, _, rfl, hO, T.cl_House, T.n_House_truth, rfl, tr, _, rfl, .inl (.of ht), _, _, rfl, rfl, ?_⟩
  have e : decide ((0 : Int) < (((nI s.truth).length : Nat) : Int)) = s.opened := by
   rw [hA.ok.opened_iff, nI_length]; exact decide_eq_decide.mpr (by omega)
  show Q (V.bl (decide ((0 : Int) < (((nI s.truth).length : Nat) : Int)))) H
  rw [e]; exact k
def sp_House_has (C : Addr) : Sp := fun vs H Q _ => ∃ (h le ou : Addr) (s : Vbrgad.State) (l : Nat), vs = [.ref h, .int l] ∧ HouseAt C H h le ou s ∧ Q (.bl (decide (l < s.truth.length))) H
theorem ok_House_has (T : Txt K mg a) : FnOk P w K mg base CX0 1 a.f_House_has a.d_House_has ["self", "look_or_kind"] (sp_House_has a.C_House) := by
 refine T.House_has.F.ok sc_House_has (fun vs H Q E h => ?_) (fun cdv A outer s H vs Q E hr h => ?_)
 ·obtain ⟨p, _, _, _, _, rfl, _⟩ := h; rfl
 ·obtain ⟨h, le, ou, s, l, rfl, hA, k⟩ := h
  obtain ⟨dx, tr, ls, ks, pr, hO, ht, _⟩ := hA.obj
  refine ⟨_, (pss_one (ps_ret (pe_cmpR op_lt (pv 1) (pe_callB (lenk K rfl) rfl T.b_len boot_len (pa_cons (fldk K rfl (pv 0) rfl) pa_nil)) (nomark _)))), ?_⟩
  refine ⟨_, rfl, _, rfl, h, _, dx, _, _, rfl, hO, T.cl_House, T.n_House_truth, rfl, tr, _, rfl, .inl (.of ht), _, _, rfl, rfl, ?_⟩
  have e : decide ((l : Int) < (((nI s.truth).length : Nat) : Int)) = decide (l < s.truth.length) := by
   rw [nI_length]; exact decide_eq_decide.mpr (by omega)
  show Q (V.bl (decide ((l : Int) < (((nI s.truth).length : Nat) : Int)))) H
  rw [e]; exact k
theorem refs_ne_ints {rs : List Addr} {l : Nat} {xs : List V} (hl : l < rs.length) (hx : ∀ v ∈ xs, ∀ r, v ≠ V.ref r) : xs ≠ rs.map V.ref := by
 intro e
 cases rs with
 | nil => simp at hl
 | cons r rs => exact hx (V.ref r) (by rw [e]; exact List.mem_cons_self ..) r rfl
theorem nI_ints (ks : List Nat) : ∀ v ∈ nI ks, ∀ r, v ≠ V.ref r := fun v hv r e => by
 obtain ⟨k, _, e2⟩ := List.mem_map.mp hv
 rw [e] at e2; cases e2
theorem ints_ints (ks : List Int) : ∀ v ∈ ks.map V.int, ∀ r, v ≠ V.ref r := fun v hv r e => by
 obtain ⟨k, _, e2⟩ := List.mem_map.mp hv
 rw [e] at e2; cases e2
theorem lst_ne {H : Hp} {x le : Addr} {rs : List Addr} {l : Nat} {xs : List V} (hx : H x = some (.lst xs)) (hle : H le = some (.lst (rs.map V.ref))) (hl : l < rs.length) (hi : ∀ v ∈ xs, ∀ r, v ≠ V.ref r) : x ≠ le :=
 ne_of hx hle fun z => refs_ne_ints hl hi (by injection z)
theorem Paired.set1 {α β : Type} {F : α → β → Prop} {x : α} {y : β} (h : F x y) : ∀ {l : List α} {m : List β} (i : Nat), Paired F l m → Paired F (l.set i x) (m.set i y)
 | _, _, _, .nil => .nil
 | _, _, 0, .cons _ t => .cons h t
 | _, _, i + 1, .cons r t => .cons r (Paired.set1 h i t)
def sp_House_show (C : Addr) : Sp := fun vs H Q _ => ∃ (h le ou D : Addr) (s : Vbrgad.State) (l : Nat) (keep : Nat → Bool) (row : List Bool), vs = [.ref h, .int l, .ref D] ∧ HouseAt C H h le ou s ∧ Opened s ∧ l < s.truth.length ∧ s.allowed[l]? = some row ∧
 H D = some (.lst (nI ((leftOf s.truth.length row).filter keep))) ∧ keep (Vbrgad.kindOf s l) = true ∧ ∀ H', HouseAt C H' h le ou (Vbrgad.show_ s l keep) → HKp H H' h le ou → Q .non H'
theorem ok_House_show (T : Txt K mg a) : FnOk P w K mg base CX0 1 a.f_House_show a.d_House_show ["self", "look", "staying"] (sp_House_show a.C_House) := by
 refine T.House_show.F.ok sc_House_show (fun vs H Q E h => ?_) (fun cdv A outer s H vs Q E hr h => ?_)
 ·obtain ⟨h, le, ou, D, s, l, keep, row, rfl, _⟩ := h; rfl
 ·obtain ⟨h, le, ou, D, s, l, keep, row, rfl, hA, ho, hl, hrow, hD, hkeep, k⟩ := h
  obtain ⟨dx, tr, ls, ks, pr, hO, ht, hls, hks, hpr⟩ := hA.obj
  obtain ⟨kvs, h4, h5, h6⟩ := hA.outs
  obtain ⟨rs, hle, hP⟩ := hA.left
  have hlen : rs.length = s.truth.length := by
   have := Paired.length hP
   rw [List.length_map, ho.alen] at this; exact this
  have hlr : l < rs.length := by omega
  have hhl : h ≠ le := ne_of hO hle (by intro z; cases z)
  refine ⟨_, (pss_cons (ps_asg (pv 2) (pg_sub (fldk K rfl (pv 0) rfl) (pv 1) set_list))
   (pss_one (ps_fld (pv 0) (pe_op op_add (fldk K rfl (pv 0) rfl) pe_int) rfl))), ?_⟩
  refine ⟨_, rfl, _, rfl, h, _, dx, _, _, rfl, hO, T.cl_House, T.n_House_left, rfl, _, rfl, le, _, _, l, rfl, rfl, hle, ixN_at (by rw [List.length_map]; omega), ?_⟩
  have hO2 : upd H le (.lst ((rs.map V.ref).set l (V.ref D))) h = some (.ins a.C_House dx (hf tr ls ks pr ou le s.shown)) := by rw [upd_ne hhl]; exact hO
  refine ⟨_, rfl, h, _, dx, _, _, rfl, hO2, T.cl_House, T.n_House_shown, rfl, _, _, rfl, rfl, _, rfl, h, _, dx, _, rfl, hO2, T.cl_House, T.n_House_shown, (by show 7 < 1000; decide), ?_⟩
  have keepI : ∀ x xs, H x = some (.lst xs) → (∀ v ∈ xs, ∀ r, v ≠ V.ref r) → upd (upd H le (.lst ((rs.map V.ref).set l (V.ref D)))) h (.ins a.C_House dx (hf tr ls ks pr ou le (s.shown + 1))) x = some (.lst xs) := fun x xs hx hi => by
   rw [upd_ne (ne_of hx hO (by intro z; cases z)), upd_ne (lst_ne hx hle hlr hi)]; exact hx
  have goal : HouseAt a.C_House (upd (upd H le (.lst ((rs.map V.ref).set l (V.ref D)))) h (.ins a.C_House dx (hf tr ls ks pr ou le (s.shown + 1)))) h le ou (Vbrgad.show_ s l keep) := by
   refine ⟨⟨dx, tr, ls, ks, pr, upd_same, keepI _ _ ht (nI_ints _), keepI _ _ hls (nI_ints _), keepI _ _ hks (nI_ints _), keepI _ _ hpr (ints_ints _)⟩, ⟨kvs, ?_, h5, fun z => ⟨fun rw_ e => ?_, (h6 z).2⟩⟩, ⟨rs.set l D, ?_, ?_⟩, .inr (ho.show hkeep)⟩
   ·rw [upd_ne (ne_of h4 hO (by intro z; cases z)), upd_ne (ne_of h4 hle (by intro z; cases z))]; exact h4
   ·obtain ⟨r, e1, e2⟩ := (h6 z).1 rw_ e
    exact ⟨r, e1, keepI _ _ e2 (nI_ints _)⟩
   ·rw [upd_ne (fun z => hhl z.symm), upd_same, List.map_set]
   ·show Paired _ _ ((Vbrgad.narrowed keep l s.allowed).map (leftOf s.truth.length))
    rw [narrowed_left _ _ _ _ _ hrow]
    refine Paired.set1 ?_ l (Paired.mapP hP fun r ks e => keepI _ _ e (nI_ints _))
    exact keepI _ _ hD (nI_ints _)
  refine k _ goal fun b o e b1 b2 b3 => ?_
  show upd (upd H le _) h _ b = some o
  rw [upd_ne b1, upd_ne b2]; exact e
end UK
set_option Elab.async false
set_option linter.all false
set_option maxRecDepth 100000
set_option maxHeartbeats 4000000
namespace UK
open PySem PySem.Spec PyProof.Rows L2
variable {P : Program} {w : World} {K : PySem.W.Frag} {mg : Str → Option Value} {base : Heap} {a : Ads}
theorem table_at {s : Vbrgad.State} {z : Nat} {o : Option (List Nat)} (h : s.outcomes[z]? = some o) : Vbrgad.table s z = o := by unfold Vbrgad.table; rw [h]; rfl
theorem HouseAt.look {C : Addr} {H : Hp} {h le ou : Addr} {s : Vbrgad.State} (hA : HouseAt C H h le ou s) (ho : Opened s) {l : Nat} (hl : l < s.truth.length) :
  ∃ (rs : List Addr) (rl : Addr) (brow : List Bool), H le = some (.lst (rs.map V.ref)) ∧ rs[l]? = some rl ∧ H rl = some (.lst (nI (leftOf s.truth.length brow))) ∧ s.allowed[l]? = some brow := by
 obtain ⟨rs, hle, hP⟩ := hA.left
 have hlen : rs.length = s.truth.length := by
  have := Paired.length hP
  rw [List.length_map, ho.alen] at this; exact this
 obtain ⟨rl, hrl1⟩ : ∃ rl, rs[l]? = some rl := ⟨_, List.getElem?_eq_getElem (by omega)⟩
 obtain ⟨ks, hks, hks2⟩ := paired_get hP hrl1
 obtain ⟨brow, hbrow, rfl⟩ := map_at hks
 exact ⟨rs, rl, brow, hle, hrl1, hks2, hbrow⟩
theorem left_filter {n : Nat} {brow : List Bool} {D : Addr} {Hc : Hp} (keep : Nat → Bool) (P' : Nat → Bool) (hP : ∀ i k, (leftOf n brow)[i]? = some k → P' i = keep k)
  (hd : Hc D = some (.lst (((List.range (nI (leftOf n brow)).length).filter P').map fun i => V.int (((leftOf n brow).getD i 0 : Nat) : Int)))) : Hc D = some (.lst (nI ((leftOf n brow).filter keep))) := by
 rw [hd, nI_length]
 unfold nI
 rw [range_filter_map_get keep (fun (k : Nat) => V.int (k : Int))]
 intro i x hx
 refine ⟨hP i x hx, ?_⟩
 rw [List.getD_eq_getElem?_getD, hx]; rfl
theorem beq_cast (x y : Nat) : ((x : Int) == (y : Int)) = (x == y) := by
 rw [Bool.eq_iff_iff, beq_iff_eq, beq_iff_eq]; omega
def sp_use_look (C : Addr) : Sp := fun vs H Q _ => ∃ (h le ou : Addr) (s : Vbrgad.State) (l z : Nat), vs = [.ref h, .int l, .int z] ∧ HouseAt C H h le ou s ∧ s.opened = true ∧ z ≤ 7 ∧ AnsTo C h le ou H (Vbrgad.step s (.use l z)) Q
theorem ok_use_look (T : Txt K mg a) : FnOk P w K mg base CX0 2 a.f_use_look a.d_use_look ["house", "look", "situation"] (sp_use_look a.C_House) := by
 refine T.use_look.F.ok sc_use_look (fun vs H Q E h => ?_) (fun cdv A outer s H vs Q E hr h => ?_)
 ·obtain ⟨h, le, ou, s, l, z, rfl, _⟩ := h; rfl
 ·obtain ⟨h, le, ou, s, l, z, rfl, hA, hop, hz7, k⟩ := h
  have ho := hA.ok.opened hop
  obtain ⟨dx, tr, ls, ks, pr, hO, ht, _⟩ := hA.obj
  refine ⟨_, (pss_cons (ps_if (pt_not (pt_val (pe_meth (pv 0) T.cl_House T.House_has.mt (ok_House_has T) (hr.mono (by decide)) T.House_has.b .nil pass0 (pa_cons (pv 1) pa_nil))))
    (pss_one (ps_ret (pe_lst (pa_cons (pe_gint rfl T.g_NO_SUCH) pa_nil))))
    pss_nil)
   (pss_cons (ps_if (pt_cmp (pc_dnotin (hu_of hr) (pv 2) (fldk K rfl (pv 0) rfl)))
    (pss_one (ps_ret (pe_lst (pa_cons (pe_gint rfl T.g_WRONG_SITUATION) pa_nil))))
    pss_nil)
   (pss_cons (ps_set (i := 3) sc_use_look.nd rfl (.inr rfl) (pe_dget (hu_of hr) (fldk K rfl (pv 0) rfl) (pv 2) (fun _ _ => rfl)))
   (pss_cons (ps_set (i := 4) sc_use_look.nd rfl (.inr rfl) (pe_ix (ixk_list K rfl) (pv 3) (pe_ix (ixk_list K rfl) (fldk K rfl (pv 0) rfl) (pv 1) (fun _ _ => rfl)) (fun _ _ => rfl)))
   (pss_cons (ps_expr (pe_meth (pv 0) T.cl_House T.House_show.mt (ok_House_show T) (hr.mono (by decide)) T.House_show.b .nil pass0 (pa_cons (pv 1) (pa_cons (pe_lc rfl sc_use_look.nd (pi_list (pe_ix (ixk_list K rfl) (fldk K rfl (pv 0) rfl) (pv 1) (fun _ _ => rfl))) (blkOk_by (own := [("kind", 5)]) (by kernel_rfl)) (fun _ _ _ _ _ => (pg_name (i := 5) sc_use_look.nd rfl (.inl rfl))) (fun _ _ _ _ _ => (pts_one (pt_cmpR op_eq (pe_ix (ixk_list K rfl) (pv 3) (pv 5) (fun _ _ => rfl)) (pv 4) (nomark _)))) (fun _ _ _ _ _ => (pv 5))) pa_nil))))
   (pss_one (ps_ret (pe_lst (pa_cons pe_int (pa_cons (pv 4) pa_nil)))))))))), ?_⟩
  refine ⟨_, rfl, h, dx, _, rfl, hO, rfl, _, rfl, h, le, ou, s, l, rfl, hA, _, rfl, ?_⟩
  by_cases hl : l < s.truth.length
  ·rw [decide_eq_true hl]
   refine iteF ?_
   obtain ⟨kvs, hou, hkl, hz⟩ := hA.outs
   obtain ⟨o, hzo⟩ : ∃ o, s.outcomes[z]? = some o := ⟨_, List.getElem?_eq_getElem (by have := ho.olen; omega)⟩
   refine ⟨_, rfl, _, rfl, h, _, dx, _, _, rfl, hO, T.cl_House, T.n_House_outcomes, rfl, ou, _, rfl, DGet.k (k := Sum.inl (z : Int)) hou, _, rfl, ?_⟩
   cases o with
   | none =>
    have e : Vbrgad.step s (.use l z) = (s, [-5]) := step_err hop (by
     show (if s.truth.length ≤ l then _ else _) = _
     rw [if_neg (by omega), table_at hzo])
    rw [e] at k
    rw [(hz z).2 hzo]
    exact iteT ⟨(by show 1 ≤ sizeLine; decide), fun p hp => k.one hA hp⟩
   | some row =>
    obtain ⟨rr, hv, hrr⟩ := (hz z).1 row hzo
    obtain ⟨hrl, hr9⟩ := ho.orow z row hzo
    rw [hv]
    refine iteF ?_
    refine ⟨_, rfl, h, _, dx, _, _, rfl, hO, T.cl_House, T.n_House_outcomes, rfl, _, rfl, ou, V.ref rr, rfl, hv ▸ DGet.k (k := Sum.inl (z : Int)) hou, ?_⟩
    obtain ⟨kd, hkd⟩ : ∃ kd, s.truth[l]? = some kd := ⟨_, List.getElem?_eq_getElem hl⟩
    have hkn : kd < s.truth.length := ho.tlt kd (List.mem_of_getElem? hkd)
    obtain ⟨oc, hoc⟩ : ∃ oc, row[kd]? = some oc := ⟨_, List.getElem?_eq_getElem (by omega)⟩
    refine ⟨_, rfl, _, rfl, h, _, dx, _, _, rfl, hO, T.cl_House, T.n_House_truth, rfl, _, rfl, tr, _, _, _, rfl, rfl, .of ht, atI_nat (at_map hkd), rr, _, _, _, rfl, rfl, .of hrr, atI_nat (at_map hoc), ?_⟩
    obtain ⟨rs, rl, brow, hle, hrl1, hks2, hbrow⟩ := hA.look ho hl
    refine ⟨_, rfl, h, dx, _, rfl, hO, rfl, _, rfl, _, rfl, h, _, dx, _, _, rfl, hO, T.cl_House, T.n_House_left, rfl, _, rfl, le, _, _, _, rfl, rfl, .of hle, atI_nat (at_map hrl1), rl, rfl, ⟨_, .of hks2⟩, fun D hD => lcL (fun i => row.getD ((leftOf s.truth.length brow).getD i 0) 10 == oc) (fun i => V.int (((leftOf s.truth.length brow).getD i 0 : Nat) : Int)) hD (.of hks2) ?_ ?_⟩
    ·intro i y H' hy p'
     obtain ⟨kj, hkj, rfl⟩ := map_at hy
     have hjn : kj < s.truth.length := leftOf_lt kj (List.mem_of_getElem? hkj)
     obtain ⟨oj, hoj⟩ : ∃ oj, row[kj]? = some oj := ⟨_, List.getElem?_eq_getElem (by omega)⟩
     have hgi : (leftOf s.truth.length brow).getD i 0 = kj := by rw [List.getD_eq_getElem?_getD, hkj]; rfl
     have hgo : row.getD kj 10 = oj := by rw [List.getD_eq_getElem?_getD, hoj]; rfl
     refine ⟨rfl, _, rfl, _, rfl, rr, _, _, _, rfl, rfl, .of (p'.same _ _ hrr), atI_nat (at_map hoj), _, rfl, rfl, _, rfl, ?_⟩
     rw [dec_int, beq_cast]
     refine iteC (fun h1 => ?_) (fun h1 => ?_)
     ·refine ⟨_, rfl, p'.yes (Same.refl _) (by rw [hgi, hgo]; exact h1) (by rw [hgi]) ?_⟩
      have := (List.getElem?_eq_some_iff.mp hkj).1
      have := leftOf_length s.truth.length brow
      have := ho.n10; omega
     ·exact p'.no (Same.refl _) (by rw [hgi, hgo]; exact h1)
    ·intro Hc hs hd
     have hkeep : (row[Vbrgad.kindOf s l]?).getD Vbrgad.OUTCOMES = oc := by rw [kindOf_at hkd, hoc]; rfl
     have hd2 := left_filter (fun k => (row[k]?).getD Vbrgad.OUTCOMES == oc) _ (fun i k hx => by
      have e : (leftOf s.truth.length brow).getD i 0 = k := by rw [List.getD_eq_getElem?_getD, hx]; rfl
      rw [e, List.getD_eq_getElem?_getD]; rfl) hd
     refine ⟨h, le, ou, D, s, l, _, brow, rfl, hA.same hs, ho, hl, hbrow, hd2, (by rw [hkeep]; simp), fun H' hA' hK' => ?_⟩
     refine ⟨_, rfl, (by show 2 ≤ sizeLine; decide), fun p hpn => ?_⟩
     have e : Vbrgad.step s (.use l z) = (Vbrgad.show_ s l (fun k => (row[k]?).getD Vbrgad.OUTCOMES == oc), [0, (oc : Int)]) := step_ok hop (by
      show (if s.truth.length ≤ l then _ else _) = _
      rw [if_neg (by omega), table_at hzo]
      show Except.ok (Vbrgad.show_ s l (fun k => (row[k]?).getD Vbrgad.OUTCOMES == (row[Vbrgad.kindOf s l]?).getD Vbrgad.OUTCOMES), [(((row[Vbrgad.kindOf s l]?).getD Vbrgad.OUTCOMES : Nat) : Int)]) = _
      rw [hkeep])
     rw [e] at k
     exact k.shown hs hA' hK' hpn
  ·have e : Vbrgad.step s (.use l z) = (s, [-6]) := step_err hop (by
    show (if s.truth.length ≤ l then _ else _) = _
    rw [if_pos (by omega)])
   rw [e] at k
   rw [decide_eq_false hl]
   exact iteT ⟨(by show 1 ≤ sizeLine; decide), fun p hp => k.one hA hp⟩
theorem priceOf_at {s : Vbrgad.State} {k : Nat} {p : Int} (h : s.prices[k]? = some p) : Vbrgad.priceOf s k = p := by unfold Vbrgad.priceOf; rw [h]; rfl
def sp_offer_look (C : Addr) : Sp := fun vs H Q _ => ∃ (h le ou : Addr) (s : Vbrgad.State) (l : Nat) (dear : Bool), vs = [.ref h, .int l, .int (if dear = true then 1 else 0)] ∧ HouseAt C H h le ou s ∧ s.opened = true ∧ AnsTo C h le ou H (Vbrgad.step s (.offer l dear)) Q
theorem ok_offer_look (T : Txt K mg a) : FnOk P w K mg base CX0 3 a.f_offer_look a.d_offer_look ["house", "look", "dear"] (sp_offer_look a.C_House) := by
 refine T.offer_look.F.ok sc_offer_look (fun vs H Q E h => ?_) (fun cdv A outer s H vs Q E hr h => ?_)
 ·obtain ⟨h, le, ou, s, l, z, rfl, _⟩ := h; rfl
 ·obtain ⟨h, le, ou, s, l, dear, rfl, hA, hop, k⟩ := h
  have ho := hA.ok.opened hop
  obtain ⟨dx, tr, ls, ks, pr, hO, ht, _, _, hpr⟩ := hA.obj
  refine ⟨_, (pss_cons (ps_if (pt_not (pt_val (pe_meth (pv 0) T.cl_House T.House_has.mt (ok_House_has T) (hr.mono (by decide)) T.House_has.b .nil pass0 (pa_cons (pv 1) pa_nil))))
    (pss_one (ps_ret (pe_lst (pa_cons (pe_gint rfl T.g_NO_SUCH) pa_nil))))
    pss_nil)
   (pss_cons (ps_set (i := 3) sc_offer_look.nd rfl (.inl rfl) (pe_ix (ixk_list K rfl) (fldk K rfl (pv 0) rfl) (pe_ix (ixk_list K rfl) (fldk K rfl (pv 0) rfl) (pv 1) (fun _ _ => rfl)) (fun _ _ => rfl)))
   (pss_cons (ps_set (i := 4) sc_offer_look.nd rfl (.inr rfl) (pe_ifExp (pt_cmpR op_eq (pv 2) pe_int (nomark _)) (pv 3) (pe_call (ok_dearer_price T) (hr.mono (by decide)) rfl T.dearer_price.m T.dearer_price.F.kp T.dearer_price.b .nil pass0 (pa_cons (pv 3) pa_nil))))
   (pss_cons (ps_expr (pe_meth (pv 0) T.cl_House T.House_show.mt (ok_House_show T) (hr.mono (by decide)) T.House_show.b .nil pass0 (pa_cons (pv 1) (pa_cons (pe_lc rfl sc_offer_look.nd (pi_list (pe_ix (ixk_list K rfl) (fldk K rfl (pv 0) rfl) (pv 1) (fun _ _ => rfl))) (blkOk_by (own := [("kind", 5)]) (by kernel_rfl)) (fun _ _ _ _ _ => (pg_name (i := 5) sc_offer_look.nd rfl (.inl rfl))) (fun _ _ _ _ _ => (pts_one (pt_val (pe_call (ok_may_be_offered T) (hr.mono (by decide)) rfl T.may_be_offered.m T.may_be_offered.F.kp T.may_be_offered.b .nil pass0 (pa_cons (pe_ix (ixk_list K rfl) (fldk K rfl (pv 0) rfl) (pv 5) (fun _ _ => rfl)) (pa_cons (pv 4) pa_nil)))))) (fun _ _ _ _ _ => (pv 5))) pa_nil))))
   (pss_one (ps_ret (pe_lst (pa_cons pe_int (pa_cons (pv 4) pa_nil))))))))), ?_⟩
  refine ⟨_, rfl, h, dx, _, rfl, hO, rfl, _, rfl, h, le, ou, s, l, rfl, hA, _, rfl, ?_⟩
  by_cases hl : l < s.truth.length
  ·rw [decide_eq_true hl]
   refine iteF ?_
   obtain ⟨kd, hkd⟩ : ∃ kd, s.truth[l]? = some kd := ⟨_, List.getElem?_eq_getElem hl⟩
   have hkn : kd < s.truth.length := ho.tlt kd (List.mem_of_getElem? hkd)
   obtain ⟨pc, hpc⟩ : ∃ pc, s.prices[kd]? = some pc := ⟨_, List.getElem?_eq_getElem (by have := ho.plen; omega)⟩
   refine ⟨_, rfl, h, _, dx, _, _, rfl, hO, T.cl_House, T.n_House_prices, rfl, _, rfl, h, _, dx, _, _, rfl, hO, T.cl_House, T.n_House_truth, rfl, _, rfl, tr, _, _, _, rfl, rfl, .of ht, atI_nat (at_map hkd), pr, _, _, _, rfl, rfl, .of hpr, atI_nat (at_map hpc), ?_⟩
   obtain ⟨pf, hpf⟩ : ∃ pf : Int, pf = if dear = true then Vbrgad.dearer pc else pc := ⟨_, rfl⟩
   have estep : Vbrgad.step s (.offer l dear) = (Vbrgad.show_ s l (fun k => Vbrgad.priceOf s k == pf || Vbrgad.dearer (Vbrgad.priceOf s k) == pf), [0, pf]) := step_ok hop (by
    show (if s.truth.length ≤ l then _ else _) = _
    rw [if_neg (by omega)]
    have e : (if dear = true then Vbrgad.dearer (Vbrgad.priceOf s (Vbrgad.kindOf s l)) else Vbrgad.priceOf s (Vbrgad.kindOf s l)) = pf := by rw [kindOf_at hkd, priceOf_at hpc, hpf]
    show Except.ok (Vbrgad.show_ s l (fun k => Vbrgad.priceOf s k == (if dear = true then Vbrgad.dearer (Vbrgad.priceOf s (Vbrgad.kindOf s l)) else Vbrgad.priceOf s (Vbrgad.kindOf s l)) || Vbrgad.dearer (Vbrgad.priceOf s k) == (if dear = true then Vbrgad.dearer (Vbrgad.priceOf s (Vbrgad.kindOf s l)) else Vbrgad.priceOf s (Vbrgad.kindOf s l))), [if dear = true then Vbrgad.dearer (Vbrgad.priceOf s (Vbrgad.kindOf s l)) else Vbrgad.priceOf s (Vbrgad.kindOf s l)]) = _
    rw [e])
   rw [estep] at k
   have hkeep : (Vbrgad.priceOf s (Vbrgad.kindOf s l) == pf || Vbrgad.dearer (Vbrgad.priceOf s (Vbrgad.kindOf s l)) == pf) = true := by
    rw [kindOf_at hkd, priceOf_at hpc, hpf]
    cases dear <;> simp
   obtain ⟨rs, rl, brow, hle, hrl1, hks2, hbrow⟩ := hA.look ho hl
   have fin : ∀ (D : Addr), H D = none → ∀ Hc, Same H Hc → Hc D = some (.lst (nI ((leftOf s.truth.length brow).filter fun k => Vbrgad.priceOf s k == pf || Vbrgad.dearer (Vbrgad.priceOf s k) == pf))) →
     sp_House_show a.C_House [V.ref h, V.int (l : Int), V.ref D] Hc (fun _ H' => ∀ p, H' p = none → Q (V.ref p) (upd H' p (.lst [V.int 0, V.int pf]))) E0 := fun D hD Hc hs hd2 =>
    ⟨h, le, ou, D, s, l, _, brow, rfl, hA.same hs, ho, hl, hbrow, hd2, hkeep, fun H' hA' hK' p hp => k.shown hs hA' hK' hp⟩
   have turn : ∀ (i kj : Nat) (H' : Hp) (D : Addr), (leftOf s.truth.length brow)[i]? = some kj → LcP H D (fun i => Vbrgad.priceOf s ((leftOf s.truth.length brow).getD i 0) == pf || Vbrgad.dearer (Vbrgad.priceOf s ((leftOf s.truth.length brow).getD i 0)) == pf) (fun i => V.int (((leftOf s.truth.length brow).getD i 0 : Nat) : Int)) i H' →
     ∃ pj, s.prices[kj]? = some pj ∧ i ≤ 10 ∧ (leftOf s.truth.length brow).getD i 0 = kj ∧ Vbrgad.priceOf s kj = pj := fun i kj H' D hkj _ => by
    have hjn : kj < s.truth.length := leftOf_lt kj (List.mem_of_getElem? hkj)
    obtain ⟨pj, hpj⟩ : ∃ pj, s.prices[kj]? = some pj := ⟨_, List.getElem?_eq_getElem (by have := ho.plen; omega)⟩
    refine ⟨pj, hpj, ?_, by rw [List.getD_eq_getElem?_getD, hkj]; rfl, priceOf_at hpj⟩
    have := (List.getElem?_eq_some_iff.mp hkj).1
    have := leftOf_length s.truth.length brow
    have := ho.n10; omega
   cases dear with
   | false =>
    have epf : pf = pc := hpf
    subst epf
    refine ⟨_, rfl, rfl, _, rfl, iteT ⟨_, rfl, ?_⟩⟩
    refine ⟨_, rfl, h, dx, _, rfl, hO, rfl, _, rfl, _, rfl, h, _, dx, _, _, rfl, hO, T.cl_House, T.n_House_left, rfl, _, rfl, le, _, _, _, rfl, rfl, .of hle, atI_nat (at_map hrl1), rl, rfl, ⟨_, .of hks2⟩, fun D hD => lcL (fun i => Vbrgad.priceOf s ((leftOf s.truth.length brow).getD i 0) == pf || Vbrgad.dearer (Vbrgad.priceOf s ((leftOf s.truth.length brow).getD i 0)) == pf) (fun i => V.int (((leftOf s.truth.length brow).getD i 0 : Nat) : Int)) hD (.of hks2) ?_ ?_⟩
    ·intro i y H' hy p'
     obtain ⟨kj, hkj, rfl⟩ := map_at hy
     obtain ⟨pj, hpj, hi10, hgi, hpo⟩ := turn i kj H' D hkj p'
     refine ⟨rfl, _, rfl, h, _, dx, _, _, rfl, p'.same _ _ hO, T.cl_House, T.n_House_prices, rfl, _, rfl, pr, _, _, _, rfl, rfl, .of (p'.same _ _ hpr), atI_nat (at_map hpj), _, rfl, pj, pf, rfl, _, rfl, ?_⟩
     refine iteC (fun h1 => ?_) (fun h1 => ?_)
     ·exact ⟨_, rfl, p'.yes (Same.refl _) (by rw [hgi, hpo]; exact h1) (by rw [hgi]) (by omega)⟩
     ·exact p'.no (Same.refl _) (by rw [hgi, hpo]; exact h1)
    ·intro Hc hs hd
     have hd2 := left_filter (fun k => Vbrgad.priceOf s k == pf || Vbrgad.dearer (Vbrgad.priceOf s k) == pf) _ (fun i k hx => by
      have e : (leftOf s.truth.length brow).getD i 0 = k := by rw [List.getD_eq_getElem?_getD, hx]; rfl
      rw [e]) hd
     obtain ⟨h', le', ou', D', s', l', kp', br', e1, e2⟩ := fin D hD Hc hs hd2
     refine ⟨h', le', ou', D', s', l', kp', br', e1, e2.1, e2.2.1, e2.2.2.1, e2.2.2.2.1, e2.2.2.2.2.1, e2.2.2.2.2.2.1, fun H' hA' hK' => ?_⟩
     exact ⟨_, rfl, (by show 2 ≤ sizeLine; decide), fun p hp => e2.2.2.2.2.2.2 H' hA' hK' p hp⟩
   | true =>
    have epf : pf = Vbrgad.dearer pc := hpf
    refine ⟨_, rfl, rfl, _, rfl, iteF ⟨_, rfl, pc, rfl, ?_⟩⟩
    have epf2 : pc + pc / 3 = pf := epf.symm
    rw [epf2]
    refine ⟨_, rfl, h, dx, _, rfl, hO, rfl, _, rfl, _, rfl, h, _, dx, _, _, rfl, hO, T.cl_House, T.n_House_left, rfl, _, rfl, le, _, _, _, rfl, rfl, .of hle, atI_nat (at_map hrl1), rl, rfl, ⟨_, .of hks2⟩, fun D hD => lcL (fun i => Vbrgad.priceOf s ((leftOf s.truth.length brow).getD i 0) == pf || Vbrgad.dearer (Vbrgad.priceOf s ((leftOf s.truth.length brow).getD i 0)) == pf) (fun i => V.int (((leftOf s.truth.length brow).getD i 0 : Nat) : Int)) hD (.of hks2) ?_ ?_⟩
    ·intro i y H' hy p'
     obtain ⟨kj, hkj, rfl⟩ := map_at hy
     obtain ⟨pj, hpj, hi10, hgi, hpo⟩ := turn i kj H' D hkj p'
     refine ⟨rfl, _, rfl, h, _, dx, _, _, rfl, p'.same _ _ hO, T.cl_House, T.n_House_prices, rfl, _, rfl, pr, _, _, _, rfl, rfl, .of (p'.same _ _ hpr), atI_nat (at_map hpj), _, rfl, pj, pf, rfl, _, rfl, ?_⟩
     refine iteC (fun h1 => ?_) (fun h1 => ?_)
     ·exact ⟨_, rfl, p'.yes (Same.refl _) (by rw [hgi, hpo]; exact h1) (by rw [hgi]) (by omega)⟩
     ·exact p'.no (Same.refl _) (by rw [hgi, hpo]; exact h1)
    ·intro Hc hs hd
     have hd2 := left_filter (fun k => Vbrgad.priceOf s k == pf || Vbrgad.dearer (Vbrgad.priceOf s k) == pf) _ (fun i k hx => by
      have e : (leftOf s.truth.length brow).getD i 0 = k := by rw [List.getD_eq_getElem?_getD, hx]; rfl
      rw [e]) hd
     obtain ⟨h', le', ou', D', s', l', kp', br', e1, e2⟩ := fin D hD Hc hs hd2
     refine ⟨h', le', ou', D', s', l', kp', br', e1, e2.1, e2.2.1, e2.2.2.1, e2.2.2.2.1, e2.2.2.2.2.1, e2.2.2.2.2.2.1, fun H' hA' hK' => ?_⟩
     exact ⟨_, rfl, (by show 2 ≤ sizeLine; decide), fun p hp => e2.2.2.2.2.2.2 H' hA' hK' p hp⟩
  ·have e : Vbrgad.step s (.offer l dear) = (s, [-6]) := step_err hop (by
    show (if s.truth.length ≤ l then _ else _) = _
    rw [if_pos (by omega)])
   rw [e] at k
   rw [decide_eq_false hl]
   exact iteT ⟨(by show 1 ≤ sizeLine; decide), fun p hp => k.one hA hp⟩
theorem filter_one {n : Nat} {brow : List Bool} {kd : Nat} (hk : kd < n) (hf : flagR brow kd = true) : (leftOf n brow).filter (fun j => j == kd) = [kd] := by
 unfold leftOf
 rw [List.filter_filter]
 induction n with
 | zero => omega
 | succ n ih =>
  rw [List.range_succ, List.filter_append]
  by_cases e : kd = n
  ·subst e
   have e1 : (List.range kd).filter (fun a => (a == kd) && flagR brow a) = [] := by
    rw [List.filter_eq_nil_iff]
    intro a ha q
    rw [Bool.and_eq_true, beq_iff_eq] at q
    have := List.mem_range.mp ha
    omega
   rw [e1, List.filter_cons, beq_self_eq_true, hf]; rfl
  ·rw [ih (by omega), List.filter_cons]
   have e1 : (n == kd) = false := beq_eq_false_iff_ne.mpr (Ne.symm e)
   rw [e1]; rfl
def sp_tell_kind (C : Addr) : Sp := fun vs H Q _ => ∃ (h le ou : Addr) (s : Vbrgad.State) (l : Nat), vs = [.ref h, .int l] ∧ HouseAt C H h le ou s ∧ s.opened = true ∧ AnsTo C h le ou H (Vbrgad.step s (.tell l)) Q
theorem ok_tell_kind (T : Txt K mg a) : FnOk P w K mg base CX0 2 a.f_tell_kind a.d_tell_kind ["house", "look"] (sp_tell_kind a.C_House) := by
 refine T.tell_kind.F.ok sc_tell_kind (fun vs H Q E h => ?_) (fun cdv A outer s H vs Q E hr h => ?_)
 ·obtain ⟨h, le, ou, s, l, rfl, _⟩ := h; rfl
 ·obtain ⟨h, le, ou, s, l, rfl, hA, hop, k⟩ := h
  have ho := hA.ok.opened hop
  obtain ⟨dx, tr, ls, ks, pr, hO, ht, _⟩ := hA.obj
  refine ⟨_, (pss_cons (ps_if (pt_not (pt_val (pe_meth (pv 0) T.cl_House T.House_has.mt (ok_House_has T) (hr.mono (by decide)) T.House_has.b .nil pass0 (pa_cons (pv 1) pa_nil))))
    (pss_one (ps_ret (pe_lst (pa_cons (pe_gint rfl T.g_NO_SUCH) pa_nil))))
    pss_nil)
   (pss_cons (ps_set (i := 2) sc_tell_kind.nd rfl (.inl rfl) (pe_ix (ixk_list K rfl) (fldk K rfl (pv 0) rfl) (pv 1) (fun _ _ => rfl)))
   (pss_cons (ps_expr (pe_meth (pv 0) T.cl_House T.House_show.mt (ok_House_show T) (hr.mono (by decide)) T.House_show.b .nil pass0 (pa_cons (pv 1) (pa_cons (pe_lst (pa_cons (pv 2) pa_nil)) pa_nil))))
   (pss_one (ps_ret (pe_lst (pa_cons pe_int (pa_cons (pv 2) pa_nil)))))))), ?_⟩
  refine ⟨_, rfl, h, dx, _, rfl, hO, rfl, _, rfl, h, le, ou, s, l, rfl, hA, _, rfl, ?_⟩
  by_cases hl : l < s.truth.length
  ·rw [decide_eq_true hl]
   refine iteF ?_
   obtain ⟨kd, hkd⟩ : ∃ kd, s.truth[l]? = some kd := ⟨_, List.getElem?_eq_getElem hl⟩
   have hkn : kd < s.truth.length := ho.tlt kd (List.mem_of_getElem? hkd)
   obtain ⟨rs, rl, brow, hle, hrl1, hks2, hbrow⟩ := hA.look ho hl
   have hfl : flagR brow kd = true := by rw [← flagAt_eq hbrow]; exact ho.tru l kd hkd
   have estep : Vbrgad.step s (.tell l) = (Vbrgad.show_ s l (fun j => j == kd), [0, (kd : Int)]) := step_ok hop (by
    show (if s.truth.length ≤ l then _ else _) = _
    rw [if_neg (by omega)]
    show Except.ok (Vbrgad.show_ s l (fun k => k == Vbrgad.kindOf s l), [((Vbrgad.kindOf s l : Nat) : Int)]) = _
    rw [kindOf_at hkd])
   rw [estep] at k
   refine ⟨_, rfl, h, _, dx, _, _, rfl, hO, T.cl_House, T.n_House_truth, rfl, _, rfl, tr, _, _, _, rfl, rfl, .of ht, atI_nat (at_map hkd), ?_⟩
   refine ⟨_, rfl, h, dx, _, rfl, hO, rfl, _, rfl, _, rfl, (by show 1 ≤ sizeLine; decide), fun D hD => ?_⟩
   refine ⟨h, le, ou, D, s, l, (fun j => j == kd), brow, rfl, hA.same (Same.new hD), ho, hl, hbrow, ?_, (by rw [kindOf_at hkd]; simp), fun H' hA' hK' => ?_⟩
   ·rw [upd_same, filter_one hkn hfl]; rfl
   ·exact ⟨_, rfl, (by show 2 ≤ sizeLine; decide), fun p hp => k.shown (Same.new hD) hA' hK' hp⟩
  ·have e : Vbrgad.step s (.tell l) = (s, [-6]) := step_err hop (by
    show (if s.truth.length ≤ l then _ else _) = _
    rw [if_pos (by omega)])
   rw [e] at k
   rw [decide_eq_false hl]
   exact iteT ⟨(by show 1 ≤ sizeLine; decide), fun p hp => k.one hA hp⟩
def sp_ask_kind (C : Addr) : Sp := fun vs H Q _ => ∃ (h le ou : Addr) (s : Vbrgad.State) (l kd : Nat), vs = [.ref h, .int l, .int kd] ∧ HouseAt C H h le ou s ∧ s.opened = true ∧ AnsTo C h le ou H (Vbrgad.step s (.ask l kd)) Q
theorem ok_ask_kind (T : Txt K mg a) : FnOk P w K mg base CX0 2 a.f_ask_kind a.d_ask_kind ["house", "look", "kind"] (sp_ask_kind a.C_House) := by
 refine T.ask_kind.F.ok sc_ask_kind (fun vs H Q E h => ?_) (fun cdv A outer s H vs Q E hr h => ?_)
 ·obtain ⟨h, le, ou, s, l, kd, rfl, _⟩ := h; rfl
 ·obtain ⟨h, le, ou, s, l, kd, rfl, hA, hop, k⟩ := h
  have ho := hA.ok.opened hop
  obtain ⟨dx, tr, ls, ks, pr, hO, ht, _⟩ := hA.obj
  have refuse : ¬ (l < s.truth.length ∧ kd < s.truth.length) → Vbrgad.step s (.ask l kd) = (s, [-6]) := fun hn => step_err hop (by
   show (if s.truth.length ≤ l ∨ s.truth.length ≤ kd then _ else _) = _
   rw [if_pos (by omega)])
  refine ⟨_, (pss_cons (ps_if (L2.PW.pt (pw_or (pt_not (pt_val (pe_meth (pv 0) T.cl_House T.House_has.mt (ok_House_has T) (hr.mono (by decide)) T.House_has.b .nil pass0 (pa_cons (pv 1) pa_nil)))) (pw_or1 (pt_not (pt_val (pe_meth (pv 0) T.cl_House T.House_has.mt (ok_House_has T) (hr.mono (by decide)) T.House_has.b .nil pass0 (pa_cons (pv 2) pa_nil)))))))
    (pss_one (ps_ret (pe_lst (pa_cons (pe_gint rfl T.g_NO_SUCH) pa_nil))))
    pss_nil)
   (pss_cons (ps_if (pt_cmpR op_eq (pe_ix (ixk_list K rfl) (fldk K rfl (pv 0) rfl) (pv 1) (fun _ _ => rfl)) (pv 2) (nomark _))
    (pss_cons (ps_expr (pe_meth (pv 0) T.cl_House T.House_show.mt (ok_House_show T) (hr.mono (by decide)) T.House_show.b .nil pass0 (pa_cons (pv 1) (pa_cons (pe_lst (pa_cons (pv 2) pa_nil)) pa_nil))))
   (pss_one (ps_ret (pe_lst (pa_cons pe_int (pa_cons pe_int pa_nil))))))
    pss_nil)
   (pss_cons (ps_expr (pe_meth (pv 0) T.cl_House T.House_show.mt (ok_House_show T) (hr.mono (by decide)) T.House_show.b .nil pass0 (pa_cons (pv 1) (pa_cons (pe_lc rfl sc_ask_kind.nd (pi_list (pe_ix (ixk_list K rfl) (fldk K rfl (pv 0) rfl) (pv 1) (fun _ _ => rfl))) (blkOk_by (own := [("other", 3)]) (by kernel_rfl)) (fun _ _ _ _ _ => (pg_name (i := 3) sc_ask_kind.nd rfl (.inl rfl))) (fun _ _ _ _ _ => (pts_one (pt_cmpR op_ne (pv 3) (pv 2) (nomark _)))) (fun _ _ _ _ _ => (pv 3))) pa_nil))))
   (pss_one (ps_ret (pe_lst (pa_cons pe_int (pa_cons pe_int pa_nil)))))))), ?_⟩
  refine ⟨_, rfl, h, dx, _, rfl, hO, rfl, _, rfl, h, le, ou, s, l, rfl, hA, _, rfl, ?_⟩
  by_cases hl : l < s.truth.length
  ·rw [decide_eq_true hl]
   refine iteF ⟨_, rfl, h, dx, _, rfl, hO, rfl, _, rfl, h, le, ou, s, kd, rfl, hA, _, rfl, ?_⟩
   by_cases hkd : kd < s.truth.length
   ·rw [decide_eq_true hkd]
    refine iteF ?_
    obtain ⟨kt, hkt⟩ : ∃ kt, s.truth[l]? = some kt := ⟨_, List.getElem?_eq_getElem hl⟩
    obtain ⟨rs, rl, brow, hle, hrl1, hks2, hbrow⟩ := hA.look ho hl
    have hfl : flagR brow kt = true := by rw [← flagAt_eq hbrow]; exact ho.tru l kt hkt
    have estep : Vbrgad.step s (.ask l kd) = (Vbrgad.show_ s l (fun j => (j == kd) == (kt == kd)), [0, Vbrgad.flag (kt == kd)]) := step_ok hop (by
     show (if s.truth.length ≤ l ∨ s.truth.length ≤ kd then _ else _) = _
     rw [if_neg (by omega)]
     show Except.ok (Vbrgad.show_ s l (fun j => (j == kd) == (Vbrgad.kindOf s l == kd)), [Vbrgad.flag (Vbrgad.kindOf s l == kd)]) = _
     rw [kindOf_at hkt])
    rw [estep] at k
    refine ⟨_, rfl, h, _, dx, _, _, rfl, hO, T.cl_House, T.n_House_truth, rfl, _, rfl, tr, _, _, _, rfl, rfl, .of ht, atI_nat (at_map hkt), _, rfl, rfl, _, rfl, ?_⟩
    rw [dec_int, beq_cast]
    cases hb : (kt == kd) with
    | true =>
     have e : kt = kd := eq_of_beq hb
     subst e
     rw [hb] at k
     refine iteT ⟨_, rfl, h, dx, _, rfl, hO, rfl, _, rfl, _, rfl, (by show 1 ≤ sizeLine; decide), fun D hD => ?_⟩
     refine ⟨h, le, ou, D, s, l, (fun j => (j == kt) == true), brow, rfl, hA.same (Same.new hD), ho, hl, hbrow, ?_, (by rw [kindOf_at hkt]; simp), fun H' hA' hK' => ?_⟩
     ·have e2 : (fun j : Nat => (j == kt) == true) = fun j => j == kt := by funext j; cases (j == kt) <;> rfl
      rw [upd_same, e2, filter_one hkd hfl]; rfl
     ·exact ⟨(by show 2 ≤ sizeLine; decide), fun p hp => k.shown (Same.new hD) hA' hK' hp⟩
    | false =>
     rw [hb] at k
     refine iteF ⟨_, rfl, h, dx, _, rfl, hO, rfl, _, rfl, _, rfl, h, _, dx, _, _, rfl, hO, T.cl_House, T.n_House_left, rfl, _, rfl, le, _, _, _, rfl, rfl, .of hle, atI_nat (at_map hrl1), rl, rfl, ⟨_, .of hks2⟩, fun D hD => lcL (fun i => ((leftOf s.truth.length brow).getD i 0 == kd) == false) (fun i => V.int (((leftOf s.truth.length brow).getD i 0 : Nat) : Int)) hD (.of hks2) ?_ ?_⟩
     ·intro i y H' hy p'
      obtain ⟨kj, hkj, rfl⟩ := map_at hy
      have hgi : (leftOf s.truth.length brow).getD i 0 = kj := by rw [List.getD_eq_getElem?_getD, hkj]; rfl
      refine ⟨rfl, _, rfl, _, rfl, rfl, _, rfl, ?_⟩
      rw [dec_int, beq_cast]
      have e : (!(kj == kd)) = (((leftOf s.truth.length brow).getD i 0 == kd) == false) := by rw [hgi]; cases (kj == kd) <;> rfl
      rw [e]
      refine iteC (fun h1 => ?_) (fun h1 => ?_)
      ·refine ⟨_, rfl, p'.yes (Same.refl _) h1 (by rw [hgi]) ?_⟩
       have := (List.getElem?_eq_some_iff.mp hkj).1
       have := leftOf_length s.truth.length brow
       have := ho.n10; omega
      ·exact p'.no (Same.refl _) h1
     ·intro Hc hs hd
      have hd2 := left_filter (fun j => (j == kd) == false) _ (fun i k hx => by
       have e : (leftOf s.truth.length brow).getD i 0 = k := by rw [List.getD_eq_getElem?_getD, hx]; rfl
       rw [e]) hd
      refine ⟨h, le, ou, D, s, l, _, brow, rfl, hA.same hs, ho, hl, hbrow, hd2, (by rw [kindOf_at hkt, hb]; rfl), fun H' hA' hK' => ?_⟩
      exact ⟨(by show 2 ≤ sizeLine; decide), fun p hp => k.shown hs hA' hK' hp⟩
   ·rw [decide_eq_false hkd]
    rw [refuse (fun q => hkd q.2)] at k
    exact iteT ⟨(by show 1 ≤ sizeLine; decide), fun p hp => k.one hA hp⟩
  ·rw [decide_eq_false hl]
   rw [refuse (fun q => hl q.1)] at k
   exact iteT (iteT ⟨(by show 1 ≤ sizeLine; decide), fun p hp => k.one hA hp⟩)
end UK
set_option Elab.async false
set_option linter.all false
set_option maxRecDepth 100000
set_option maxHeartbeats 4000000
namespace UK
open PySem PySem.Spec PyProof.Rows L2
variable {P : Program} {w : World} {K : PySem.W.Frag} {mg : Str → Option Value} {base : Heap} {a : Ads}
theorem dec_len (x y : Nat) : decide (V.int (x : Int) = V.int (y : Int)) = decide (x = y) := decide_eq_decide.mpr ⟨fun q => by injection q with q; omega, fun q => by rw [q]⟩
theorem mapAt_some (row : List Nat) : ∀ (z : Nat) (outs : List (Option (List Nat))), outs[z]? = some none → ((Vbrgad.mapAt (fun _ => some row) z outs).filter Option.isSome).length = (outs.filter Option.isSome).length + 1
 | _, [], h => by simp at h
 | 0, o :: outs, h => by
  have e : o = none := by simpa using h
  subst e; simp [Vbrgad.mapAt]
 | z + 1, o :: outs, h => by
  have := mapAt_some row z outs (by simpa using h)
  cases o <;> simp [Vbrgad.mapAt, this]
def sp_tell_outcomes (C : Addr) : Sp := fun vs H Q _ => ∃ (h le ou r : Addr) (s : Vbrgad.State) (z : Nat) (row : List Nat), vs = [.ref h, .int z, .ref r] ∧ HouseAt C H h le ou s ∧ s.opened = true ∧ z ≤ 7 ∧ H r = some (.lst (nI row)) ∧ (∀ x ∈ row, x ≤ 9) ∧ AnsTo C h le ou H (Vbrgad.step s (.outcomes z row)) Q
theorem ok_tell_outcomes (T : Txt K mg a) : FnOk P w K mg base CX0 1 a.f_tell_outcomes a.d_tell_outcomes ["house", "situation", "row"] (sp_tell_outcomes a.C_House) := by
 refine T.tell_outcomes.F.ok sc_tell_outcomes (fun vs H Q E h => ?_) (fun cdv A outer s H vs Q E hr h => ?_)
 ·obtain ⟨h, le, ou, r, s, z, row, rfl, _⟩ := h; rfl
 ·obtain ⟨h, le, ou, r, s, z, row, rfl, hA, hop, hz7, hrow, hr9, k⟩ := h
  have ho := hA.ok.opened hop
  obtain ⟨dx, tr, ls, ks, pr, hO, ht, hls, hks, hpr⟩ := hA.obj
  obtain ⟨kvs, hou, hkl, hz⟩ := hA.outs
  obtain ⟨rs, hle, hP⟩ := hA.left
  obtain ⟨o, hzo⟩ : ∃ o, s.outcomes[z]? = some o := ⟨_, List.getElem?_eq_getElem (by have := ho.olen; omega)⟩
  refine ⟨_, (pss_cons (ps_if (pt_cmp (pc_din (hu_of hr) (pv 1) (fldk K rfl (pv 0) rfl)))
    (pss_one (ps_ret (pe_lst (pa_cons (pe_gint rfl T.g_WRONG_SITUATION) pa_nil))))
    pss_nil)
   (pss_cons (ps_if (pt_cmpR op_ne (pe_callB (lenk K rfl) rfl T.b_len boot_len (pa_cons (pv 2) pa_nil)) (pe_callB (lenk K rfl) rfl T.b_len boot_len (pa_cons (fldk K rfl (pv 0) rfl) pa_nil)) (nomark _))
    (pss_one (ps_ret (pe_lst (pa_cons (pe_gint rfl T.g_WRONG_ROWS) pa_nil))))
    pss_nil)
   (pss_cons (ps_dput (hu_of hr) (fldk K rfl (pv 0) rfl) (pv 1) (pv 2) rfl)
   (pss_one (ps_ret (pe_lst (pa_cons pe_int pa_nil))))))), ?_⟩
  refine ⟨_, rfl, _, rfl, h, _, dx, _, _, rfl, hO, T.cl_House, T.n_House_outcomes, rfl, ou, _, rfl, DGet.k (k := Sum.inl (z : Int)) hou, _, rfl, ?_⟩
  cases o with
  | some row' =>
   obtain ⟨rr, hv, _⟩ := (hz z).1 row' hzo
   have e : Vbrgad.step s (.outcomes z row) = (s, [-5]) := step_err hop (by
    show (if (Vbrgad.table s z).isSome = true then _ else _) = _
    rw [table_at hzo]; rfl)
   rw [e] at k
   rw [hv]
   exact iteT ⟨(by show 1 ≤ sizeLine; decide), fun p hp => k.one hA hp⟩
  | none =>
   rw [(hz z).2 hzo]
   refine iteF ⟨_, rfl, r, _, rfl, .inl (.of hrow), _, rfl, h, _, dx, _, _, rfl, hO, T.cl_House, T.n_House_truth, rfl, tr, _, rfl, .inl (.of ht), rfl, _, rfl, ?_⟩
   rw [nI_length, nI_length, dec_len]
   by_cases hl : row.length = s.truth.length
   ·rw [decide_eq_true hl]
    have hk8 : kvs.length ≤ 8 := by
     have := List.length_filter_le Option.isSome s.outcomes
     have := ho.olen
     omega
    refine iteF ⟨_, rfl, _, rfl, h, _, dx, _, _, rfl, hO, T.cl_House, T.n_House_outcomes, rfl, _, rfl, ou, _, rfl, DPut.k (k := Sum.inl (z : Int)) hou (line1M (by omega)), ?_⟩
    refine ⟨(by show 1 ≤ sizeLine; decide), fun p hp => ?_⟩
    have estep : Vbrgad.step s (.outcomes z row) = ({ s with outcomes := Vbrgad.mapAt (fun _ => some row) z s.outcomes }, [0]) := step_ok hop (by
     show (if (Vbrgad.table s z).isSome = true then _ else if row.length ≠ s.truth.length then _ else _) = _
     rw [table_at hzo, if_neg (by simp), if_neg (by simp [hl])])
    rw [estep] at k
    have keep : ∀ b o, H b = some o → b ≠ ou → upd H ou (.dK (putK kvs (Sum.inl (z : Int)) (V.ref r))) b = some o := fun b o e hb => by rw [upd_ne hb]; exact e
    have nl : ∀ b xs, H b = some (.lst xs) → b ≠ ou := fun b xs e => ne_of e hou (by intro z; cases z)
    have hA' : HouseAt a.C_House (upd H ou (.dK (putK kvs (Sum.inl (z : Int)) (V.ref r)))) h le ou { s with outcomes := Vbrgad.mapAt (fun _ => some row) z s.outcomes } := by
     refine ⟨⟨dx, tr, ls, ks, pr, keep _ _ hO (ne_of hO hou (by intro z; cases z)), keep _ _ ht (nl _ _ ht), keep _ _ hls (nl _ _ hls), keep _ _ hks (nl _ _ hks), keep _ _ hpr (nl _ _ hpr)⟩, ⟨_, upd_same, ?_, fun z' => ⟨fun rw_ e => ?_, fun e => ?_⟩⟩, ⟨rs, keep _ _ hle (nl _ _ hle), Paired.mapP hP fun r ks e => keep _ _ e (nl _ _ e)⟩, .inr (ho.tell hl hr9)⟩
     ·have h1 := mapAt_some row z s.outcomes hzo
      have h2 := putK_new (V.ref r) ((hz z).2 hzo)
      show (putK kvs (Sum.inl (z : Int)) (V.ref r)).length ≤ ((Vbrgad.mapAt (fun _ => some row) z s.outcomes).filter Option.isSome).length
      rw [h1, h2, List.length_append]
      show kvs.length + 1 ≤ _
      omega
     ·have e' : (Vbrgad.mapAt (fun _ => some row) z s.outcomes)[z']? = some (some rw_) := e
      rw [mapAt_get] at e'
      rw [valV_put]
      by_cases q : z' = z
      ·subst q
       rw [if_pos rfl, hzo] at e'
       cases e'
       exact ⟨r, by rw [if_pos rfl], keep _ _ hrow (nl _ _ hrow)⟩
      ·rw [if_neg q] at e'
       obtain ⟨r2, e1, e2⟩ := (hz z').1 rw_ e'
       exact ⟨r2, by rw [if_neg (fun z => q (by have := Sum.inl.inj z; omega))]; exact e1, keep _ _ e2 (nl _ _ e2)⟩
     ·have e' : (Vbrgad.mapAt (fun _ => some row) z s.outcomes)[z']? = some none := e
      rw [mapAt_get] at e'
      rw [valV_put]
      by_cases q : z' = z
      ·subst q
       rw [if_pos rfl, hzo] at e'
       cases e'
      ·rw [if_neg q] at e'
       rw [if_neg (fun z => q (by have := Sum.inl.inj z; omega))]
       exact (hz z').2 e'
    exact k.shown (Hc := H) (Same.refl _) hA' (fun b o e _ _ hb => keep b o e hb) hp
   ·rw [decide_eq_false hl]
    have e : Vbrgad.step s (.outcomes z row) = (s, [-4]) := step_err hop (by
     show (if (Vbrgad.table s z).isSome = true then _ else if row.length ≠ s.truth.length then _ else _) = _
     rw [table_at hzo, if_neg (by simp), if_pos hl])
    rw [e] at k
    exact iteT ⟨(by show 1 ≤ sizeLine; decide), fun p hp => k.one hA hp⟩
theorem looks_eq {truth looks kinds : List Nat} (h1 : looks.length = truth.length) : (∀ l, l < truth.length → (looks[l]?).getD 0 = (kinds[(truth[l]?).getD 0]?).getD 0) ↔ looks = truth.map fun k => kinds.getD k 0 := by
 constructor
 ·intro h
  apply List.ext_getElem?
  intro i
  by_cases hi : i < truth.length
  ·have := h i hi
   rw [List.getElem?_map, List.getElem?_eq_getElem hi, List.getElem?_eq_getElem (by omega)]
   rw [List.getElem?_eq_getElem hi, List.getElem?_eq_getElem (by omega)] at this
   show some looks[i] = some (kinds.getD truth[i] 0)
   rw [List.getD_eq_getElem?_getD]
   exact congrArg some this
  ·rw [List.getElem?_eq_none_iff.mpr (by omega), List.getElem?_eq_none_iff.mpr (by simp; omega)]
 ·intro e l hl
  rw [e, List.getElem?_map, List.getElem?_eq_getElem hl, List.getD_eq_getElem?_getD.symm]
  rfl
def sp_open_house (C : Addr) : Sp := fun vs H Q _ => ∃ (h le ou rt rl rk rp : Addr) (s : Vbrgad.State) (truth looks kinds : List Nat) (prices : List Int), vs = [.ref h, .ref rt, .ref rl, .ref rk, .ref rp] ∧ HouseAt C H h le ou s ∧
 H rt = some (.lst (nI truth)) ∧ H rl = some (.lst (nI looks)) ∧ H rk = some (.lst (nI kinds)) ∧ H rp = some (.lst (prices.map V.int)) ∧ truth.length ≤ 10 ∧ looks.length ≤ 10 ∧ kinds.length ≤ 10 ∧ (∀ p ∈ prices, 1 ≤ p ∧ p ≤ 1000000) ∧ AnsTo C h le ou H (Vbrgad.step s (.opens truth looks kinds prices)) Q
theorem ok_open_house (T : Txt K mg a) : FnOk P w K mg base CX0 2 a.f_open_house a.d_open_house ["house", "truth", "look_sorts", "kind_sorts", "prices"] (sp_open_house a.C_House) := by
 refine T.open_house.F.ok sc_open_house (fun vs H Q E h => ?_) (fun cdv A outer s H vs Q E hr h => ?_)
 ·obtain ⟨h, le, ou, rt, rl, rk, rp, s, truth, looks, kinds, prices, rfl, _⟩ := h; rfl
 ·obtain ⟨h, le, ou, rt, rl, rk, rp, s, truth, looks, kinds, prices, rfl, hA, hrt, hrl, hrk, hrp, ht10, hl10, hk10, hpr, k⟩ := h
  obtain ⟨dx, tr, ls, ks, pr, hO, _⟩ := hA.obj
  refine ⟨_, (pss_cons (ps_if (pt_val (pe_meth0 (pv 0) T.cl_House T.House_is_open.mt (ok_House_is_open T) (hr.mono (by decide)) T.House_is_open.b .nil pass0))
    (pss_one (ps_ret (pe_lst (pa_cons (pe_gint rfl T.g_OPEN_ALREADY) pa_nil))))
    pss_nil)
   (pss_cons (ps_if (L2.PW.pt (pw_or (pt_cmpR op_eq (pe_callB (lenk K rfl) rfl T.b_len boot_len (pa_cons (pv 1) pa_nil)) pe_int (nomark _)) (pw_or1 (pt_not (pt_val (pe_call (ok_is_pairing T) (hr.mono (by decide)) rfl T.is_pairing.m T.is_pairing.F.kp T.is_pairing.b .nil pass0 (pa_cons (pv 1) pa_nil)))))))
    (pss_one (ps_ret (pe_lst (pa_cons (pe_gint rfl T.g_WRONG_ROWS) pa_nil))))
    pss_nil)
   (pss_cons (ps_if (pt_not (pt_val (pe_callB (allk K rfl rfl) rfl T.b_all boot_all (pa_cons (pe_lc rfl sc_open_house.nd (pi_tup (pe_tup (pa_cons (pv 2) (pa_cons (pv 3) (pa_cons (pv 4) pa_nil))))) (blkOk_by (own := [("row", 5)]) (by kernel_rfl)) (fun _ _ _ _ _ => (pg_name (i := 5) sc_open_house.nd rfl (.inl rfl))) (fun _ _ _ _ _ => pts_nil) (fun _ _ _ _ _ => (pe_cmpR op_eq (pe_callB (lenk K rfl) rfl T.b_len boot_len (pa_cons (pv 5) pa_nil)) (pe_callB (lenk K rfl) rfl T.b_len boot_len (pa_cons (pv 1) pa_nil)) (nomark _)))) pa_nil))))
    (pss_one (ps_ret (pe_lst (pa_cons (pe_gint rfl T.g_WRONG_ROWS) pa_nil))))
    pss_nil)
   (pss_cons (ps_if (pt_cmpR (neDk K rfl hr.units) (pv 2) (pe_lc rfl sc_open_house.nd (pi_list (pv 1)) (blkOk_by (own := [("kind", 6)]) (by kernel_rfl)) (fun _ _ _ _ _ => (pg_name (i := 6) sc_open_house.nd rfl (.inl rfl))) (fun _ _ _ _ _ => pts_nil) (fun _ _ _ _ _ => (pe_ix (ixk_list K rfl) (pv 3) (pv 6) (fun _ _ => rfl)))) (nomark _))
    (pss_one (ps_ret (pe_lst (pa_cons (pe_gint rfl T.g_WRONG_ROWS) pa_nil))))
    pss_nil)
   (pss_cons (ps_fld (pv 0) (pv 1) rfl)
   (pss_cons (ps_fld (pv 0) (pv 2) rfl)
   (pss_cons (ps_fld (pv 0) (pv 3) rfl)
   (pss_cons (ps_fld (pv 0) (pv 4) rfl)
   (pss_cons (ps_fld (pv 0) (pe_lc rfl sc_open_house.nd (pi_list (pv 2)) (blkOk_by (own := [("sort", 7)]) (by kernel_rfl)) (fun _ _ _ _ _ => (pg_name (i := 7) sc_open_house.nd rfl (.inl rfl))) (fun _ _ _ _ _ => pts_nil) (fun _ _ _ _ _ => (pe_call (ok_kinds_of_sort T) (hr.mono (by decide)) rfl T.kinds_of_sort.m T.kinds_of_sort.F.kp T.kinds_of_sort.b .nil pass0 (pa_cons (pv 7) (pa_cons (pv 3) pa_nil))))) rfl)
   (pss_one (ps_ret (pe_lst (pa_cons pe_int pa_nil))))))))))))), ?_⟩
  refine ⟨_, rfl, h, dx, _, rfl, hO, rfl, h, le, ou, s, rfl, hA, _, rfl, ?_⟩
  cases hop : s.opened with
  | true =>
   have e : Vbrgad.step s (.opens truth looks kinds prices) = (s, [-3]) := step_err hop (by
    show (if s.opened = true then _ else _) = _
    rw [if_pos hop])
   rw [e] at k
   exact iteT ⟨(by show 1 ≤ sizeLine; decide), fun p hp => k.one hA hp⟩
  | false =>
   have hst := hA.ok.closed hop
   have estep : Vbrgad.step s (.opens truth looks kinds prices) = if Vbrgad.sound truth looks kinds prices = false then (s, [-4]) else (Vbrgad.begun truth looks kinds prices, [0]) := by
    unfold Vbrgad.step
    rw [if_neg (by rintro ⟨_, q⟩; cases q)]
    have e1 : Vbrgad.does s (.opens truth looks kinds prices) = if Vbrgad.sound truth looks kinds prices = false then .error (-4) else .ok (Vbrgad.begun truth looks kinds prices, []) := by
     show (if s.opened = true then _ else _) = _
     rw [if_neg (by rw [hop]; simp)]
    rw [e1]
    by_cases q : Vbrgad.sound truth looks kinds prices = false
    ·rw [if_pos q, if_pos q]
    ·rw [if_neg q, if_neg q]
   have bad : Vbrgad.sound truth looks kinds prices = false → ∀ H1, Same H H1 → ∀ p, H1 p = none → Q (V.ref p) (upd H1 p (.lst [V.int (-4)])) := fun hb H1 s1 p hp => by
    rw [estep, if_pos hb] at k
    exact k.pure hA (s1.trans (Same.new hp)) (s1.free hp) upd_same
   have hsi := sound_iff (looks := looks) (kinds := kinds) (prices := prices) ht10
   have nos : ¬ (1 ≤ truth.length ∧ Vbrgad.isPairing truth.length truth = true ∧ looks.length = truth.length ∧ kinds.length = truth.length ∧ prices.length = truth.length ∧ ∀ l, l < truth.length → (looks[l]?).getD 0 = (kinds[(truth[l]?).getD 0]?).getD 0) → Vbrgad.sound truth looks kinds prices = false := fun hn => by
    cases e : Vbrgad.sound truth looks kinds prices with
    | false => rfl
    | true => exact absurd (hsi.mp e) hn
   refine iteF ⟨_, rfl, rt, _, rfl, .inl (.of hrt), rfl, _, rfl, ?_⟩
   have e0 : decide (V.int (((nI truth).length : Nat) : Int) = V.int 0) = decide (truth.length = 0) := by rw [nI_length]; exact dec_len truth.length 0
   rw [e0]
   by_cases h0 : truth.length = 0
   ·rw [decide_eq_true h0]
    refine iteT (iteT ⟨(by show 1 ≤ sizeLine; decide), fun p hp => bad (nos fun q => ?_) H (Same.refl _) p hp⟩)
    have := q.1; omega
   rw [decide_eq_false h0]
   refine iteF ⟨_, rfl, truth.map (fun (k : Nat) => (k : Int)), rt, rfl, .of (by rw [← nI_eq]; exact hrt), (by rw [List.length_map]; omega), cast_nn truth, fun H1 s1 => ?_⟩
   rw [cast_toNat, List.length_map]
   refine ⟨_, rfl, ?_⟩
   cases hpair : Vbrgad.isPairing truth.length truth with
   | false => exact iteT ⟨(by show 1 ≤ sizeLine; decide), fun p hp => bad (nos fun q => by rw [hpair] at q; cases q.2.1) H1 s1 p hp⟩
   | true =>
    refine iteF ?_
    have hpm := pairing_mem hpair
    have hplt := pairing_lt hpm
    refine ⟨_, rfl, _, rfl, _, rfl, (by show 3 ≤ sizeLine; decide), fun tp htp => ?_⟩
    have s2 := s1.trans (Same.new (o := .tup [V.ref rl, V.ref rk, V.ref rp]) htp)
    have hT : SqT K (upd H1 tp (.tup [V.ref rl, V.ref rk, V.ref rp])) tp [V.ref rl, V.ref rk, V.ref rp] := .of upd_same
    refine ⟨tp, rfl, ⟨_, hT⟩, fun D hD => lcT (fun _ => true) (fun i => V.bl (decide (([looks.length, kinds.length, prices.length].getD i 0) = truth.length))) hD hT ?_ ?_⟩
    ·intro i y H' hy p'
     have hs' := s2.trans p'.same
     obtain ⟨rx, xs, hx, hg, ey, hi⟩ : ∃ (rx : Addr) (xs : List V), H rx = some (.lst xs) ∧ [looks.length, kinds.length, prices.length].getD i 0 = xs.length ∧ y = V.ref rx ∧ i ≤ 3 := by
      match i, hy with
      | 0, hy => exact ⟨rl, _, hrl, (nI_length _).symm, (Option.some.inj hy).symm, by omega⟩
      | 1, hy => exact ⟨rk, _, hrk, (nI_length _).symm, (Option.some.inj hy).symm, by omega⟩
      | 2, hy => exact ⟨rp, _, hrp, (List.length_map ..).symm, (Option.some.inj hy).symm, by omega⟩
      | i + 3, hy => exact absurd hy (by simp)
     subst ey
     refine ⟨rfl, tYes_if ⟨_, rfl, rx, _, rfl, .inl (.of (hs' _ _ hx)), _, rfl, rt, _, rfl, .inl (.of (hs' _ _ hrt)), rfl, p'.yes (Same.refl _) rfl ?_ (by omega)⟩⟩
     rw [nI_length, dec_len, hg]
    ·intro H3 hs3 hd3
     have s3 := s2.trans hs3
     have e3 : H3 D = some (.lst ([decide (looks.length = truth.length), decide (kinds.length = truth.length), decide (prices.length = truth.length)].map V.bl)) := by
      rw [hd3, filter_tt]; rfl
     refine ⟨D, _, rfl, .of e3, _, rfl, ?_⟩
     by_cases hlens : looks.length = truth.length ∧ kinds.length = truth.length ∧ prices.length = truth.length
     ·obtain ⟨hl1, hl2, hl3⟩ := hlens
      rw [decide_eq_true hl1, decide_eq_true hl2, decide_eq_true hl3]
      refine iteF ?_
      refine ⟨_, rfl, _, rfl, rt, rfl, ⟨_, .of (s3 _ _ hrt)⟩, fun D2 hD2 => lcL (fun _ => true) (fun i => V.int ((kinds.getD (truth.getD i 0) 0 : Nat) : Int)) hD2 (.of (s3 _ _ hrt)) ?_ ?_⟩
      ·intro i y H' hy p'
       obtain ⟨kd, hkd, rfl⟩ := map_at hy
       have hkn : kd < truth.length := hplt kd (List.mem_of_getElem? hkd)
       have hgi : truth.getD i 0 = kd := by rw [List.getD_eq_getElem?_getD, hkd]; rfl
       refine ⟨rfl, tYes_if ⟨_, rfl, _, rfl, rk, _, _, _, rfl, rfl, .of (p'.same _ _ (s3 _ _ hrk)), atI_nat (at_map (getD_at (by omega : kd < kinds.length))), p'.yes (Same.refl _) rfl (by rw [hgi]) ?_⟩⟩
       have := (List.getElem?_eq_some_iff.mp hkd).1
       omega
      ·intro H4 hs4 hd4
       have s4 := s3.trans hs4
       have e4 : H4 D2 = some (.lst (((truth.map fun k => kinds.getD k 0).map fun (k : Nat) => (k : Int)).map V.int)) := by
        rw [hd4, filter_tt, nI_length, List.map_map, List.map_map]
        congr 2
        refine range_map_get _ _ _ fun i x hx => ?_
        rw [List.getD_eq_getElem?_getD (l := truth), hx]; rfl
       have e5 : H4 rl = some (.lst ((looks.map fun (k : Nat) => (k : Int)).map V.int)) := by rw [← nI_eq]; exact s4 _ _ hrl
       refine ⟨_, _, .lst (.of e5) (dp_ints _), .lst (.of e4) (dp_ints _), PySem.W.ke_shaped_ints _, PySem.W.ke_shaped_ints _, _, rfl, ?_⟩
       have eqv : PyData.eqv (.list ((looks.map fun (k : Nat) => (k : Int)).map PyData.int)) (.list (((truth.map fun k => kinds.getD k 0).map fun (k : Nat) => (k : Int)).map PyData.int)) = decide (looks = truth.map fun k => kinds.getD k 0) := by
        show PyData.eqvAll _ _ = _
        rw [PySem.W.ked_eqvAll]
        refine decide_eq_decide.mpr ⟨fun q => ?_, fun q => by rw [q]⟩
        have := congrArg (List.map Int.toNat) q
        rwa [cast_toNat, cast_toNat] at this
       rw [eqv]
       by_cases heq : looks = truth.map fun k => kinds.getD k 0
       ·rw [decide_eq_true heq]
        have hsound : Vbrgad.sound truth looks kinds prices = true := hsi.mpr ⟨by omega, hpair, hl1, hl2, hl3, (looks_eq hl1).mpr heq⟩
        rw [estep, if_neg (by rw [hsound]; simp)] at k
        have hO4 := s4 _ _ hO
        have n0 : s.shown = 0 := by rw [hst]; rfl
        have nh : ∀ b xs, H4 b = some (.lst xs) → b ≠ h := fun b xs e => ne_of e hO4 (by intro z; cases z)
        refine iteF ⟨_, rfl, _, rfl, h, _, dx, _, rfl, hO4, T.cl_House, T.n_House_truth, (by show 7 < 1000; decide), ?_⟩
        refine ⟨_, rfl, _, rfl, h, _, dx, _, rfl, upd_same, T.cl_House, T.n_House_look_sorts, (by show 7 < 1000; decide), ?_⟩
        refine ⟨_, rfl, _, rfl, h, _, dx, _, rfl, upd_same, T.cl_House, T.n_House_kind_sorts, (by show 7 < 1000; decide), ?_⟩
        refine ⟨_, rfl, _, rfl, h, _, dx, _, rfl, upd_same, T.cl_House, T.n_House_prices, (by show 7 < 1000; decide), ?_⟩
        obtain ⟨H5, hH5⟩ : ∃ H5, H5 = upd (upd (upd (upd H4 h (.ins a.C_House dx (hf rt ls ks pr ou le s.shown))) h (.ins a.C_House dx (hf rt rl ks pr ou le s.shown))) h (.ins a.C_House dx (hf rt rl rk pr ou le s.shown))) h (.ins a.C_House dx (hf rt rl rk rp ou le s.shown)) := ⟨_, rfl⟩
        have kp5 : Kp H4 H5 h := by rw [hH5]; exact Kp.upd.trans (Kp.upd.trans (Kp.upd.trans Kp.upd))
        have hO5 : H5 h = some (.ins a.C_House dx (hf rt rl rk rp ou le s.shown)) := by rw [hH5]; exact upd_same
        have kl : ∀ b xs, H b = some (.lst xs) → H5 b = some (.lst xs) := fun b xs e => kp5 _ _ (s4 _ _ e) (nh _ _ (s4 _ _ e))
        show (_ : TS) _ _ (upd (upd (upd (upd H4 h (.ins a.C_House dx (hf rt ls ks pr ou le s.shown))) h (.ins a.C_House dx (hf rt rl ks pr ou le s.shown))) h (.ins a.C_House dx (hf rt rl rk pr ou le s.shown))) h (.ins a.C_House dx (hf rt rl rk rp ou le s.shown)))
        rw [← hH5]
        have hrk5 : SqL K H5 rk ((kinds.map fun (k : Nat) => (k : Int)).map V.int) := .of (by rw [← nI_eq]; exact kl _ _ hrk)
        refine ⟨_, rfl, rl, rfl, ⟨_, .of (kl _ _ hrl)⟩, fun D3 hD3 => lcLR (looks.map fun b => (List.range truth.length).filter fun i => kinds.getD i 0 == b) hD3 (.of (kl _ _ hrl)) ?_ ?_⟩
        ·intro i y H' hy p'
         obtain ⟨so, hso, rfl⟩ := map_at hy
         refine ⟨rfl, tYes_if ⟨_, rfl, _, rfl, (so : Int), kinds.map (fun (k : Nat) => (k : Int)), rk, rfl, p'.same.seq hrk5, (by rw [List.length_map]; omega), fun H6 q s6 hq hq6 => ?_⟩⟩
         refine p'.yes (ks := (List.range truth.length).filter fun i => kinds.getD i 0 == so) s6 ?_ hq (at_map hso) ?_
         ·rw [hq6, List.length_map, hl2]
          unfold nI
          congr 3
          refine List.filter_congr fun j _ => ?_
          rw [List.getD_eq_getElem?_getD, List.getElem?_map, List.getD_eq_getElem?_getD]
          cases kinds[j]? with
          | none => exact beq_cast 0 so
          | some x => exact beq_cast x so
         ·have := (List.getElem?_eq_some_iff.mp hso).1
          omega
        ·intro H6 p6
         have s6 := p6.same
         have hl6 := p6.left (by rw [List.length_map, nI_length]; exact Nat.le_refl _)
         refine ⟨_, rfl, h, _, dx, _, rfl, s6 _ _ hO5, T.cl_House, T.n_House_left, (by show 7 < 1000; decide), (by show 1 ≤ sizeLine; decide), fun p hp => ?_⟩
         have hD3H : H D3 = none := by
          cases q : H D3 with
          | none => rfl
          | some o =>
           exfalso
           by_cases hh : D3 = h
           ·rw [hh, hO5] at hD3; cases hD3
           ·rw [kp5 _ _ (s4 _ _ q) hh] at hD3; cases hD3
         have kb : ∀ b o, H b = some o → b ≠ h → upd H6 h (.ins a.C_House dx (hf rt rl rk rp ou D3 s.shown)) b = some o := fun b o e hb => by
          rw [upd_ne hb]; exact s6 _ _ (kp5 _ _ (s4 _ _ e) hb)
         have nhH : ∀ b xs, H b = some (.lst xs) → b ≠ h := fun b xs e => ne_of e hO (by intro z; cases z)
         have kb6 : ∀ b xs, H6 b = some (.lst xs) → upd H6 h (.ins a.C_House dx (hf rt rl rk rp ou D3 s.shown)) b = some (.lst xs) := fun b xs e => by
          rw [upd_ne (ne_of e (s6 _ _ hO5) (by intro z; cases z))]; exact e
         obtain ⟨kvs, hou, hkl, hz⟩ := hA.outs
         have houts : s.outcomes = List.replicate 8 none := by rw [hst]; rfl
         obtain ⟨qs, hq1, hq2⟩ := hl6
         have hA' : HouseAt a.C_House (upd H6 h (.ins a.C_House dx (hf rt rl rk rp ou D3 s.shown))) h D3 ou (Vbrgad.begun truth looks kinds prices) := by
          refine ⟨⟨dx, rt, rl, rk, rp, by rw [upd_same, n0]; rfl, kb _ _ hrt (nhH _ _ hrt), kb _ _ hrl (nhH _ _ hrl), kb _ _ hrk (nhH _ _ hrk), kb _ _ hrp (nhH _ _ hrp)⟩, ⟨kvs, kb _ _ hou (ne_of hou hO (by intro z; cases z)), by rw [houts] at hkl; exact hkl, fun z => ⟨fun rw_ e => ?_, fun e => ?_⟩⟩, ⟨qs, kb6 _ _ hq1, ?_⟩, .inr (begun_ok ht10 hsound hpr)⟩
          ·exfalso
           have e' : (List.replicate 8 (none : Option (List Nat)))[z]? = some (some rw_) := e
           rw [List.getElem?_replicate] at e'
           split at e' <;> cases e'
          ·have := (hz z).2
           rw [houts] at this
           exact this e
          ·show Paired _ _ ((looks.map fun a => kinds.map fun b => a == b).map (leftOf truth.length))
           rw [begun_left truth.length looks kinds hl2]
           exact Paired.mapP hq2 fun r ks e => kb6 _ _ e
         have hpH : H p = none := by
          cases q : H p with
          | none => rfl
          | some o =>
           exfalso
           have hp' : upd H6 h (.ins a.C_House dx (hf rt rl rk rp ou D3 s.shown)) p = none := hp
           by_cases hh : p = h
           ·rw [hh, upd_same] at hp'; cases hp'
           ·rw [kb _ _ q hh] at hp'; cases hp'
         exact k _ p D3 ou (hA'.same (Same.new hp)) (.inr hD3H) (.inl rfl) (fun b o e b1 _ _ => Same.new hp _ _ (kb b o e b1)) upd_same hpH
       ·rw [decide_eq_false heq]
        exact iteT ⟨(by show 1 ≤ sizeLine; decide), fun p hp => bad (nos fun q => heq ((looks_eq hl1).mp q.2.2.2.2.2)) H4 s4 p hp⟩
     ·have ef : ([decide (looks.length = truth.length), decide (kinds.length = truth.length), decide (prices.length = truth.length)].all id) = false := by
       simp only [List.all_cons, List.all_nil, Bool.and_true, id]
       rw [Bool.eq_false_iff]
       intro q
       simp only [Bool.and_eq_true, decide_eq_true_eq] at q
       exact hlens ⟨q.1, q.2.1, q.2.2⟩
      rw [ef]
      exact iteT ⟨(by show 1 ≤ sizeLine; decide), fun p hp => bad (nos fun q => hlens ⟨q.2.2.1, q.2.2.2.1, q.2.2.2.2.1⟩) H3 s3 p hp⟩
end UK
set_option Elab.async false
set_option linter.all false
set_option maxRecDepth 100000
set_option maxHeartbeats 4000000
namespace UK
open PySem PySem.Spec PyProof.Rows L2
variable {P : Program} {w : World} {K : PySem.W.Frag} {mg : Str → Option Value} {base : Heap} {a : Ads}
theorem HouseAt.tbl {C : Addr} {H : Hp} {h le ou : Addr} {s : Vbrgad.State} (hA : HouseAt C H h le ou s) (ho : Opened s) : LeftAt H le (s.allowed.map (leftOf s.allowed.length)) := by
 rw [ho.alen]; exact hA.left
theorem LeftAt.at {H : Hp} {x : Addr} {left : List (List Nat)} (h : LeftAt H x left) {i : Nat} {ks : List Nat} (e : left[i]? = some ks) : ∃ (rs : List Addr) (r : Addr), H x = some (.lst (rs.map V.ref)) ∧ rs.length = left.length ∧ rs[i]? = some r ∧ H r = some (.lst (nI ks)) := by
 obtain ⟨rs, h1, h2⟩ := h
 have hl := Paired.length h2
 have hi : i < rs.length := by have := (List.getElem?_eq_some_iff.mp e).1; omega
 obtain ⟨ks', e2, h3⟩ := paired_get h2 (List.getElem?_eq_getElem hi)
 rw [e] at e2
 cases e2
 exact ⟨rs, rs[i], h1, hl, List.getElem?_eq_getElem hi, h3⟩
theorem ans_cat (l : List Nat) : [V.int 0] ++ nI l = (0 :: l.map Vbrgad.nat).map V.int := by rw [nI_eq]; rfl
theorem range_small {n : Nat} {p : Nat → Bool} (h : n ≤ 10) : ((List.range n).filter p).length ≤ 10 := Nat.le_trans (List.length_filter_le _ _) (by rw [List.length_range]; exact h)
def sp_answer_possible (C : Addr) : Sp := fun vs H Q _ => ∃ (h le ou : Addr) (s : Vbrgad.State) (l : Nat), vs = [.ref h, .int l] ∧ HouseAt C H h le ou s ∧ s.opened = true ∧ AnsTo C h le ou H (Vbrgad.step s (.possible l)) Q
theorem ok_answer_possible (T : Txt K mg a) : FnOk P w K mg base CX0 7 a.f_answer_possible a.d_answer_possible ["house", "look"] (sp_answer_possible a.C_House) := by
 refine T.answer_possible.F.ok sc_answer_possible (fun vs H Q E h => ?_) (fun cdv A outer s H vs Q E hr h => ?_)
 ·obtain ⟨h, le, ou, s, l, rfl, _⟩ := h; rfl
 ·obtain ⟨h, le, ou, s, l, rfl, hA, hop, k⟩ := h
  have ho := hA.ok.opened hop
  obtain ⟨dx, tr, ls, ks, pr, hO, ht, _⟩ := hA.obj
  refine ⟨_, (pss_cons (ps_if (pt_not (pt_val (pe_meth (pv 0) T.cl_House T.House_has.mt (ok_House_has T) (hr.mono (by decide)) T.House_has.b .nil pass0 (pa_cons (pv 1) pa_nil))))
    (pss_one (ps_ret (pe_lst (pa_cons (pe_gint rfl T.g_NO_SUCH) pa_nil))))
    pss_nil)
   (pss_one (ps_ret (pe_op op_cat (pe_lst (pa_cons pe_int pa_nil)) (pe_ix (ixk_list K rfl) (pe_call (ok_possible_kinds T) (hr.mono (by decide)) rfl T.possible_kinds.m T.possible_kinds.F.kp T.possible_kinds.b .nil pass0 (pa_cons (fldk K rfl (pv 0) rfl) pa_nil)) (pv 1) (fun _ _ => rfl)))))), ?_⟩
  refine ⟨_, rfl, h, dx, _, rfl, hO, rfl, _, rfl, h, le, ou, s, l, rfl, hA, _, rfl, ?_⟩
  by_cases hl : l < s.truth.length
  ·rw [decide_eq_true hl]
   have estep : Vbrgad.step s (.possible l) = (s, 0 :: ((List.range s.truth.length).filter (Vbrgad.possible s.truth.length s.allowed l)).map Vbrgad.nat) := step_ok hop (by
    show (if s.truth.length ≤ l then _ else _) = _
    rw [if_neg (by omega)]; rfl)
   rw [estep] at k
   refine iteF ⟨(by show 1 ≤ sizeLine; decide), fun z hz => ?_⟩
   have s1 := Same.new (o := .lst [V.int 0]) hz
   refine ⟨_, rfl, h, _, dx, _, _, rfl, s1 _ _ hO, T.cl_House, T.n_House_left, rfl, s.allowed, le, rfl, (hA.tbl ho).same s1, (by rw [ho.alen]; exact ho.n1), (by rw [ho.alen]; exact ho.n10), fun H2 p2 s2 hp2 hL2 => ?_⟩
   obtain ⟨rs, r, hx, _, hr1, hr2⟩ := LeftAt.at hL2.at (i := l) (range_map_at _ (by rw [ho.alen]; exact hl))
   rw [ho.alen] at hr2
   refine ⟨_, rfl, p2, _, _, _, rfl, rfl, .of hx, atI_nat (at_map hr1), z, r, _, _, rfl, rfl, s2 _ _ upd_same, hr2, ?_, fun p hp => ?_⟩
   ·rw [nI_length]
    have := range_small (p := Vbrgad.possible s.truth.length s.allowed l) ho.n10
    show 1 + _ ≤ sizeLine
    exact Nat.le_of_lt (small1000 (by omega))
   ·have s3 := s1.trans s2
    refine k.pure hA (s3.trans (Same.new hp)) (s3.free hp) ?_
    rw [upd_same, ans_cat]
  ·have e : Vbrgad.step s (.possible l) = (s, [-6]) := step_err hop (by
    show (if s.truth.length ≤ l then _ else _) = _
    rw [if_pos (by omega)])
   rw [e] at k
   rw [decide_eq_false hl]
   exact iteT ⟨(by show 1 ≤ sizeLine; decide), fun p hp => k.one hA hp⟩
def certI (s : Vbrgad.State) (l : Nat) : Int := ((Vbrgad.certain s.truth.length s.allowed l).map Vbrgad.nat).getD (-1)
theorem certI_eq (s : Vbrgad.State) (l : Nat) : certI s l = if ((List.range s.truth.length).filter (Vbrgad.possible s.truth.length s.allowed l)).length = 1 then ((((List.range s.truth.length).filter (Vbrgad.possible s.truth.length s.allowed l)).getD 0 0 : Nat) : Int) else -1 := by
 unfold certI Vbrgad.certain
 match (List.range s.truth.length).filter (Vbrgad.possible s.truth.length s.allowed l) with
 | [] => rfl
 | [k] => rfl
 | k :: j :: r => rfl
def sp_answer_certain (C : Addr) : Sp := fun vs H Q _ => ∃ (h le ou : Addr) (s : Vbrgad.State), vs = [.ref h] ∧ HouseAt C H h le ou s ∧ s.opened = true ∧ AnsTo C h le ou H (Vbrgad.step s .certain) Q
theorem ok_answer_certain (T : Txt K mg a) : FnOk P w K mg base CX0 7 a.f_answer_certain a.d_answer_certain ["house"] (sp_answer_certain a.C_House) := by
 refine T.answer_certain.F.ok sc_answer_certain (fun vs H Q E h => ?_) (fun cdv A outer s H vs Q E hr h => ?_)
 ·obtain ⟨h, le, ou, s, rfl, _⟩ := h; rfl
 ·obtain ⟨h, le, ou, s, rfl, hA, hop, k⟩ := h
  have ho := hA.ok.opened hop
  have hn10 := ho.n10
  obtain ⟨dx, tr, ls, ks, pr, hO, ht, _⟩ := hA.obj
  have estep : Vbrgad.step s .certain = (s, 0 :: (List.range s.truth.length).map (certI s)) := step_ok hop rfl
  rw [estep] at k
  refine ⟨_, (pss_cons (ps_set (i := 1) sc_answer_certain.nd rfl (.inl rfl) (pe_lst (pa_cons pe_int pa_nil)))
   (pss_cons (ps_for PassesOwn.never rfl (pi_list (pe_call (ok_possible_kinds T) (hr.mono (by decide)) rfl T.possible_kinds.m T.possible_kinds.F.kp T.possible_kinds.b .nil pass0 (pa_cons (fldk K rfl (pv 0) rfl) pa_nil))) (pg_name (i := 2) sc_answer_certain.nd rfl (.inl rfl))
    (pss_one (ps_expr (pe_bm PySem.F.plainAttrs_list PySem.F.slot_list_append PySem.F.type_list_append mt_append (pv 1) (pa_cons (pe_ifExp (pt_cmpR op_eq (pe_callB (lenk K rfl) rfl T.b_len boot_len (pa_cons (pv 2) pa_nil)) pe_int (nomark _)) (pe_ix (ixk_list K rfl) (pv 2) pe_int (fun _ _ => rfl)) (pe_un un_neg pe_int)) pa_nil)))))
   (pss_one (ps_ret (pv 1))))), ?_⟩
  refine ⟨(by show 1 ≤ sizeLine; decide), fun z hz => ?_⟩
  have s1 := Same.new (o := .lst [V.int 0]) hz
  refine ⟨_, rfl, h, _, dx, _, _, rfl, s1 _ _ hO, T.cl_House, T.n_House_left, rfl, s.allowed, le, rfl, (hA.tbl ho).same s1, (by rw [ho.alen]; exact ho.n1), (by rw [ho.alen]; exact ho.n10), fun H2 p2 s2 hp2 hL2 => ?_⟩
  obtain ⟨rs, hx, hP⟩ := hL2
  have hlr : (rs.map V.ref).length = s.truth.length := by rw [List.length_map, Paired.length hP]; unfold possTable; rw [List.length_map, List.length_range, ho.alen]
  have hpz : z ≠ p2 := ne_of_none upd_same hp2
  refine ⟨p2, rfl, ⟨_, .of hx⟩, for_list (K := K) (a := p2) (xs := rs.map V.ref) (fun i σ H' => ∃ v2 : Option V, σ = [some (.ref h), some (.ref z), v2] ∧ H' z = some (.lst ((0 :: (List.range i).map (certI s)).map V.int)) ∧ Kp H2 H' z)
   ⟨none, rfl, s2 _ _ upd_same, Kp.refl⟩ (fun i σ H' _ ⟨_, _, _, h⟩ => .of (h _ _ hx (fun q => hpz q.symm))) ?_ ?_⟩
  ·rintro i y σ H' hi ⟨v2, rfl, hz', hk'⟩
   obtain ⟨r, hr1, rfl⟩ := map_at hi
   obtain ⟨qs, hk1, hk2⟩ := paired_get hP hr1
   have hit : i < s.truth.length := by
    have := (List.getElem?_eq_some_iff.mp hi).1
    omega
   unfold possTable at hk1
   rw [range_map_at _ (by rw [ho.alen]; exact hit), ho.alen] at hk1
   cases hk1
   have hrz : r ≠ z := fun q => by
    have := hk2.2
    rw [q, upd_same] at this
    cases this
   have hr' := hk' _ _ hk2.1 hrz
   have ec := certI_eq s i
   have hnext : ∃ v2' : Option V, [some (V.ref h), some (V.ref z), some (V.ref r)] = [some (V.ref h), some (V.ref z), v2'] ∧ upd H' z (.lst ((0 :: (List.range i).map (certI s)).map V.int ++ [V.int (certI s i)])) z = some (.lst ((0 :: (List.range (i + 1)).map (certI s)).map V.int)) ∧ Kp H2 (upd H' z (.lst ((0 :: (List.range i).map (certI s)).map V.int ++ [V.int (certI s i)]))) z := by
    refine ⟨_, rfl, ?_, hk'.trans Kp.upd⟩
    rw [upd_same, List.range_succ, List.map_append (f := certI s), ← List.cons_append, List.map_append]; rfl
   have hlen : ((0 :: (List.range i).map (certI s)).map V.int).length < sizeLine := by
    rw [List.length_map, List.length_cons, List.length_map, List.length_range]
    exact small1000 (by omega)
   generalize (List.range s.truth.length).filter (Vbrgad.possible s.truth.length s.allowed i) = qs at hr' ec
   refine ⟨_, rfl, .inl ⟨rfl, _, .of hz'⟩, _, rfl, r, _, rfl, .inl (.of hr'), rfl, _, rfl, ?_⟩
   have ed : decide (V.int (((nI qs).length : Nat) : Int) = V.int 1) = decide (qs.length = 1) := by rw [nI_length]; exact dec_len qs.length 1
   rw [ed]
   by_cases h1 : qs.length = 1
   ·rw [if_pos h1] at ec
    rw [decide_eq_true h1]
    refine iteT ⟨_, rfl, r, _, _, _, rfl, rfl, .of hr', atI_nat (j := 0) (at_map (getD_at (by omega : 0 < qs.length))), z, _, _, rfl, rfl, hz', hlen, ?_⟩
    rw [← ec]; exact hnext
   ·rw [if_neg h1] at ec
    rw [decide_eq_false h1]
    refine iteF ⟨_, rfl, z, _, _, rfl, rfl, hz', hlen, ?_⟩
    show ∃ v2' : Option V, _ ∧ upd H' z (.lst ((0 :: (List.range i).map (certI s)).map V.int ++ [V.int (-1)])) z = _ ∧ Kp H2 (upd H' z (.lst ((0 :: (List.range i).map (certI s)).map V.int ++ [V.int (-1)]))) z
    rw [← ec]; exact hnext
  ·rintro σ H' ⟨v2, rfl, hz', hk'⟩
   rw [hlr] at hz'
   refine ⟨_, rfl, k.pure hA (fun b o e => ?_) hz hz'⟩
   have hb : b ≠ z := ne_of_none e hz
   exact hk' _ _ (s2 _ _ (s1 _ _ e)) hb
def sp_answer_count (C : Addr) : Sp := fun vs H Q _ => ∃ (h le ou : Addr) (s : Vbrgad.State), vs = [.ref h] ∧ HouseAt C H h le ou s ∧ s.opened = true ∧ AnsTo C h le ou H (Vbrgad.step s .count) Q
theorem ok_answer_count (T : Txt K mg a) : FnOk P w K mg base CX0 5 a.f_answer_count a.d_answer_count ["house"] (sp_answer_count a.C_House) := by
 refine T.answer_count.F.ok sc_answer_count (fun vs H Q E h => ?_) (fun cdv A outer s H vs Q E hr h => ?_)
 ·obtain ⟨h, le, ou, s, rfl, _⟩ := h; rfl
 ·obtain ⟨h, le, ou, s, rfl, hA, hop, k⟩ := h
  have ho := hA.ok.opened hop
  obtain ⟨dx, tr, ls, ks, pr, hO, ht, _⟩ := hA.obj
  have estep : Vbrgad.step s .count = (s, [0, Vbrgad.nat (Vbrgad.count s.truth.length s.allowed)]) := step_ok hop rfl
  rw [estep] at k
  refine ⟨_, (pss_one (ps_ret (pe_lst (pa_cons pe_int (pa_cons (pe_call (ok_count_pairings T) (hr.mono (by decide)) rfl T.count_pairings.m T.count_pairings.F.kp T.count_pairings.b .nil pass0 (pa_cons (fldk K rfl (pv 0) rfl) pa_nil)) pa_nil))))), ?_⟩
  refine ⟨_, rfl, h, _, dx, _, _, rfl, hO, T.cl_House, T.n_House_left, rfl, s.allowed, le, rfl, hA.tbl ho, (by rw [ho.alen]; exact ho.n10), fun H2 s2 => ?_⟩
  refine ⟨(by show 2 ≤ sizeLine; decide), fun p hp => k.pure hA (s2.trans (Same.new hp)) (s2.free hp) ?_⟩
  rw [upd_same, ho.alen]; rfl
def sp_answer_left (C : Addr) : Sp := fun vs H Q _ => ∃ (h le ou : Addr) (s : Vbrgad.State) (l : Nat), vs = [.ref h, .int l] ∧ HouseAt C H h le ou s ∧ s.opened = true ∧ AnsTo C h le ou H (Vbrgad.step s (.allowed l)) Q
theorem ok_answer_left (T : Txt K mg a) : FnOk P w K mg base CX0 2 a.f_answer_left a.d_answer_left ["house", "look"] (sp_answer_left a.C_House) := by
 refine T.answer_left.F.ok sc_answer_left (fun vs H Q E h => ?_) (fun cdv A outer s H vs Q E hr h => ?_)
 ·obtain ⟨h, le, ou, s, l, rfl, _⟩ := h; rfl
 ·obtain ⟨h, le, ou, s, l, rfl, hA, hop, k⟩ := h
  have ho := hA.ok.opened hop
  obtain ⟨dx, tr, ls, ks, pr, hO, ht, _⟩ := hA.obj
  refine ⟨_, (pss_cons (ps_if (pt_not (pt_val (pe_meth (pv 0) T.cl_House T.House_has.mt (ok_House_has T) (hr.mono (by decide)) T.House_has.b .nil pass0 (pa_cons (pv 1) pa_nil))))
    (pss_one (ps_ret (pe_lst (pa_cons (pe_gint rfl T.g_NO_SUCH) pa_nil))))
    pss_nil)
   (pss_one (ps_ret (pe_op op_cat (pe_lst (pa_cons pe_int pa_nil)) (pe_ix (ixk_list K rfl) (fldk K rfl (pv 0) rfl) (pv 1) (fun _ _ => rfl)))))), ?_⟩
  refine ⟨_, rfl, h, dx, _, rfl, hO, rfl, _, rfl, h, le, ou, s, l, rfl, hA, _, rfl, ?_⟩
  by_cases hl : l < s.truth.length
  ·rw [decide_eq_true hl]
   obtain ⟨rs, rl, brow, hle, hrl1, hks2, hbrow⟩ := hA.look ho hl
   have ef : (List.range s.truth.length).filter (Vbrgad.flagAt s.allowed l) = leftOf s.truth.length brow := by
    unfold leftOf
    exact List.filter_congr fun j _ => flagAt_eq hbrow j
   have estep : Vbrgad.step s (.allowed l) = (s, 0 :: (leftOf s.truth.length brow).map Vbrgad.nat) := step_ok hop (by
    show (if s.truth.length ≤ l then _ else _) = _
    rw [if_neg (by omega), ← ef]; rfl)
   rw [estep] at k
   refine iteF ⟨(by show 1 ≤ sizeLine; decide), fun z hz => ?_⟩
   have s1 := Same.new (o := .lst [V.int 0]) hz
   refine ⟨_, rfl, h, _, dx, _, _, rfl, s1 _ _ hO, T.cl_House, T.n_House_left, rfl, _, rfl, le, _, _, _, rfl, rfl, .of (s1 _ _ hle), atI_nat (at_map hrl1), z, rl, _, _, rfl, rfl, upd_same, s1 _ _ hks2, ?_, fun p hp => ?_⟩
   ·rw [nI_length]
    have := leftOf_length s.truth.length brow
    have := ho.n10
    show 1 + _ ≤ sizeLine
    exact Nat.le_of_lt (small1000 (by omega))
   ·refine k.pure hA (s1.trans (Same.new hp)) (s1.free hp) ?_
    rw [upd_same, ans_cat]
  ·have e : Vbrgad.step s (.allowed l) = (s, [-6]) := step_err hop (by
    show (if s.truth.length ≤ l then _ else _) = _
    rw [if_pos (by omega)])
   rw [e] at k
   rw [decide_eq_false hl]
   exact iteT ⟨(by show 1 ≤ sizeLine; decide), fun p hp => k.one hA hp⟩
def sp_answer_why (C : Addr) : Sp := fun vs H Q _ => ∃ (h le ou : Addr) (s : Vbrgad.State) (l kd : Nat), vs = [.ref h, .int l, .int kd] ∧ HouseAt C H h le ou s ∧ s.opened = true ∧ AnsTo C h le ou H (Vbrgad.step s (.why l kd)) Q
theorem ok_answer_why (T : Txt K mg a) : FnOk P w K mg base CX0 7 a.f_answer_why a.d_answer_why ["house", "look", "kind"] (sp_answer_why a.C_House) := by
 refine T.answer_why.F.ok sc_answer_why (fun vs H Q E h => ?_) (fun cdv A outer s H vs Q E hr h => ?_)
 ·obtain ⟨h, le, ou, s, l, kd, rfl, _⟩ := h; rfl
 ·obtain ⟨h, le, ou, s, l, kd, rfl, hA, hop, k⟩ := h
  have ho := hA.ok.opened hop
  have hn10 := ho.n10
  obtain ⟨dx, tr, ls, ks, pr, hO, ht, _⟩ := hA.obj
  have refuse : ¬ (l < s.truth.length ∧ kd < s.truth.length) → Vbrgad.step s (.why l kd) = (s, [-6]) := fun hn => step_err hop (by
   show (if s.truth.length ≤ l ∨ s.truth.length ≤ kd then _ else _) = _
   rw [if_pos (by omega)])
  refine ⟨_, (pss_cons (ps_if (L2.PW.pt (pw_or (pt_not (pt_val (pe_meth (pv 0) T.cl_House T.House_has.mt (ok_House_has T) (hr.mono (by decide)) T.House_has.b .nil pass0 (pa_cons (pv 1) pa_nil)))) (pw_or1 (pt_not (pt_val (pe_meth (pv 0) T.cl_House T.House_has.mt (ok_House_has T) (hr.mono (by decide)) T.House_has.b .nil pass0 (pa_cons (pv 2) pa_nil)))))))
    (pss_one (ps_ret (pe_lst (pa_cons (pe_gint rfl T.g_NO_SUCH) pa_nil))))
    pss_nil)
   (pss_cons (ps_if (pt_cmpR (notInk K rfl) (pv 2) (pe_ix (ixk_list K rfl) (fldk K rfl (pv 0) rfl) (pv 1) (fun _ _ => rfl)) (by with_unfolding_all rfl))
    (pss_one (ps_ret (pe_lst (pa_cons pe_int (pa_cons pe_int pa_nil)))))
    pss_nil)
   (pss_cons (ps_if (pt_cmpR (ink K rfl) (pv 2) (pe_ix (ixk_list K rfl) (pe_call (ok_possible_kinds T) (hr.mono (by decide)) rfl T.possible_kinds.m T.possible_kinds.F.kp T.possible_kinds.b .nil pass0 (pa_cons (fldk K rfl (pv 0) rfl) pa_nil)) (pv 1) (fun _ _ => rfl)) (by with_unfolding_all rfl))
    (pss_one (ps_ret (pe_lst (pa_cons pe_int (pa_cons pe_int pa_nil)))))
    pss_nil)
   (pss_one (ps_ret (pe_op op_cat (pe_lst (pa_cons pe_int (pa_cons pe_int pa_nil))) (pe_call (ok_crowded_looks T) (hr.mono (by decide)) rfl T.crowded_looks.m T.crowded_looks.F.kp T.crowded_looks.b .nil pass0 (pa_cons (fldk K rfl (pv 0) rfl) (pa_cons (pv 1) (pa_cons (pv 2) pa_nil)))))))))), ?_⟩
  refine ⟨_, rfl, h, dx, _, rfl, hO, rfl, _, rfl, h, le, ou, s, l, rfl, hA, _, rfl, ?_⟩
  by_cases hl : l < s.truth.length
  ·rw [decide_eq_true hl]
   refine iteF ⟨_, rfl, h, dx, _, rfl, hO, rfl, _, rfl, h, le, ou, s, kd, rfl, hA, _, rfl, ?_⟩
   by_cases hkd : kd < s.truth.length
   ·rw [decide_eq_true hkd]
    refine iteF ?_
    obtain ⟨rs, rl, brow, hle, hrl1, hks2, hbrow⟩ := hA.look ho hl
    have estep : Vbrgad.step s (.why l kd) = (s, 0 :: (if Vbrgad.possible s.truth.length s.allowed l kd = true then [0] else if Vbrgad.flagAt s.allowed l kd = false then [1] else match Vbrgad.witness s.truth.length s.allowed l kd with
     | none => [2]
     | some m => 2 :: (Vbrgad.members s.truth.length m).map Vbrgad.nat)) := step_ok hop (by
      show (if s.truth.length ≤ l ∨ s.truth.length ≤ kd then _ else _) = _
      rw [if_neg (by omega)]; rfl)
    rw [estep] at k
    have hla : l < s.allowed.length := by rw [ho.alen]; exact hl
    have hpf := possible_iff (n := s.truth.length) (a := s.allowed) (l := l) (k := kd) hla hkd
    have hfm := flagAt_mem (n := s.truth.length) hbrow hkd
    refine ⟨_, rfl, _, rfl, h, _, dx, _, _, rfl, hO, T.cl_House, T.n_House_left, rfl, _, rfl, le, _, _, _, rfl, rfl, .of hle, atI_nat (at_map hrl1), rl, _, rfl, .inl (.of hks2), rfl, nI_flat _, _, rfl, ?_⟩
    show if (!inV (V.int (kd : Int)) (nI (leftOf s.truth.length brow))) = true then _ else _
    rw [inV_nI]
    cases hc : (leftOf s.truth.length brow).contains kd with
    | false =>
     have hff : Vbrgad.flagAt s.allowed l kd = false := by
      rw [Bool.eq_false_iff]
      intro q
      have := hfm.mp q
      rw [← List.contains_iff_mem, hc] at this
      cases this
     have hpp : Vbrgad.possible s.truth.length s.allowed l kd = false := by
      rw [Bool.eq_false_iff]
      intro q
      have := (hpf.mp q).1
      rw [hff] at this
      cases this
     rw [if_neg (by rw [hpp]; simp), if_pos hff] at k
     exact iteT ⟨(by show 2 ≤ sizeLine; decide), fun p hp => k.pure hA (Same.new hp) hp upd_same⟩
    | true =>
     have hft : Vbrgad.flagAt s.allowed l kd = true := hfm.mpr (List.contains_iff_mem.mp hc)
     refine iteF ⟨_, rfl, _, rfl, h, _, dx, _, _, rfl, hO, T.cl_House, T.n_House_left, rfl, s.allowed, le, rfl, hA.tbl ho, (by rw [ho.alen]; exact ho.n1), (by rw [ho.alen]; exact ho.n10), fun H2 p2 s2 hp2 hL2 => ?_⟩
     obtain ⟨rs2, r2, hx2, _, hr1, hr2⟩ := LeftAt.at hL2.at (i := l) (range_map_at _ hla)
     rw [ho.alen] at hr2
     refine ⟨_, rfl, p2, _, _, _, rfl, rfl, .of hx2, atI_nat (at_map hr1), r2, _, rfl, .inl (.of hr2), rfl, nI_flat _, _, rfl, ?_⟩
     show if inV (V.int (kd : Int)) (nI ((List.range s.truth.length).filter (Vbrgad.possible s.truth.length s.allowed l))) = true then _ else _
     rw [inV_nI]
     have hcp : ((List.range s.truth.length).filter (Vbrgad.possible s.truth.length s.allowed l)).contains kd = Vbrgad.possible s.truth.length s.allowed l kd := by
      rw [Bool.eq_iff_iff, List.contains_iff_mem, List.mem_filter, List.mem_range]
      exact ⟨fun q => q.2, fun q => ⟨hkd, q⟩⟩
     rw [hcp]
     cases hpp : Vbrgad.possible s.truth.length s.allowed l kd with
     | true =>
      rw [if_pos hpp] at k
      exact iteT ⟨(by show 2 ≤ sizeLine; decide), fun p hp => k.pure hA (s2.trans (Same.new hp)) (s2.free hp) upd_same⟩
     | false =>
      have hppA : Vbrgad.possible s.allowed.length s.allowed l kd = false := by rw [ho.alen]; exact hpp
      obtain ⟨m0, hw, hm0, hc0, hmin⟩ := crowd_some hla (by rw [ho.alen]; exact hkd) hft hppA
      have hw' : Vbrgad.witness s.truth.length s.allowed l kd = some m0 := by rw [← ho.alen]; exact hw
      rw [if_neg (by rw [hpp]; simp), if_neg (by rw [hft]; simp), hw'] at k
      refine iteF ⟨(by show 2 ≤ sizeLine; decide), fun z hz => ?_⟩
      have s3 := s2.trans (Same.new (o := .lst [V.int 0, V.int 2]) hz)
      refine ⟨_, rfl, h, _, dx, _, _, rfl, s3 _ _ hO, T.cl_House, T.n_House_left, rfl, _, rfl, _, rfl, s.allowed, le, l, kd, m0, rfl, (hA.tbl ho).same s3, (by rw [ho.alen]; exact ho.n10), hla, (by rw [ho.alen]; exact hkd), hm0, hc0, hmin, fun H4 p4 s4 hp4 hm4 => ?_⟩
      refine ⟨z, p4, _, _, rfl, rfl, s4 _ _ upd_same, hm4, ?_, fun p hp => ?_⟩
      ·rw [nI_length]
       have := range_small (n := s.allowed.length) (p := Vbrgad.has m0) (by rw [ho.alen]; exact ho.n10)
       show 2 + (Vbrgad.members s.allowed.length m0).length ≤ sizeLine
       unfold Vbrgad.members
       exact Nat.le_of_lt (small1000 (by omega))
      ·have s5 := s3.trans s4
       refine k.pure hA (s5.trans (Same.new hp)) (s5.free hp) ?_
       rw [upd_same, ho.alen, nI_eq]; rfl
   ·rw [decide_eq_false hkd]
    rw [refuse (fun q => hkd q.2)] at k
    exact iteT ⟨(by show 1 ≤ sizeLine; decide), fun p hp => k.one hA hp⟩
  ·rw [decide_eq_false hl]
   rw [refuse (fun q => hl q.1)] at k
   exact iteT (iteT ⟨(by show 1 ≤ sizeLine; decide), fun p hp => k.one hA hp⟩)
end UK
set_option Elab.async false
set_option linter.all false
set_option maxRecDepth 100000
set_option maxHeartbeats 4000000
namespace UK
open PySem PySem.Spec PyProof.Rows L2
variable {P : Program} {w : World} {K : PySem.W.Frag} {mg : Str → Option Value} {base : Heap} {a : Ads}
def sp_answer_try (C : Addr) : Sp := fun vs H Q _ => ∃ (h le ou : Addr) (s : Vbrgad.State) (z : Nat), vs = [.ref h, .int z] ∧ HouseAt C H h le ou s ∧ s.opened = true ∧ z ≤ 7 ∧ AnsTo C h le ou H (Vbrgad.step s (.try_ z)) Q
theorem ok_answer_try (T : Txt K mg a) : FnOk P w K mg base CX0 6 a.f_answer_try a.d_answer_try ["house", "situation"] (sp_answer_try a.C_House) := by
 refine T.answer_try.F.ok sc_answer_try (fun vs H Q E h => ?_) (fun cdv A outer s H vs Q E hr h => ?_)
 ·obtain ⟨h, le, ou, s, z, rfl, _⟩ := h; rfl
 ·obtain ⟨h, le, ou, s, z, rfl, hA, hop, hz7, k⟩ := h
  have ho := hA.ok.opened hop
  have hn10 := ho.n10
  have hn1 := ho.n1
  obtain ⟨dx, tr, ls, ks, pr, hO, ht, _⟩ := hA.obj
  obtain ⟨kvs, hou, hkl, hz⟩ := hA.outs
  obtain ⟨o, hzo⟩ : ∃ o, s.outcomes[z]? = some o := ⟨_, List.getElem?_eq_getElem (by have := ho.olen; omega)⟩
  refine ⟨_, (pss_cons (ps_if (pt_cmp (pc_dnotin (hu_of hr) (pv 1) (fldk K rfl (pv 0) rfl)))
    (pss_one (ps_ret (pe_lst (pa_cons (pe_gint rfl T.g_WRONG_SITUATION) pa_nil))))
    pss_nil)
   (pss_cons (ps_set (i := 2) sc_answer_try.nd rfl (.inr rfl) (pe_dget (hu_of hr) (fldk K rfl (pv 0) rfl) (pv 1) (fun _ _ => rfl)))
   (pss_cons (by first | exact ps_set (i := 3) sc_answer_try.nd rfl (.inl rfl) (pe_lc rfl sc_answer_try.nd (pi_list (pe_call (ok_pairings_by_kind T) (hr.mono (by decide)) rfl T.pairings_by_kind.m T.pairings_by_kind.F.kp T.pairings_by_kind.b .nil pass0 (pa_cons (fldk K rfl (pv 0) rfl) pa_nil))) (blkOk_by (own := [("numbers", 4)]) (by kernel_rfl)) (fun _ _ _ _ _ => (pg_name (i := 4) sc_answer_try.nd rfl (.inl rfl))) (fun _ _ _ _ _ => pts_nil) (fun _ _ _ _ _ => (pe_call (ok_most_of_one_outcome T) (hr.mono (by decide)) rfl T.most_of_one_outcome.m T.most_of_one_outcome.F.kp T.most_of_one_outcome.b .nil pass0 (pa_cons (pv 4) (pa_cons (pv 2) pa_nil))))) | exact ps_setLc (i := 3) rfl sc_answer_try.nd rfl rfl (sw_true rfl rfl rfl (by decide +kernel)) (pi_list (pe_call (ok_pairings_by_kind T) (hr.mono (by decide)) rfl T.pairings_by_kind.m T.pairings_by_kind.F.kp T.pairings_by_kind.b .nil pass0 (pa_cons (fldk K rfl (pv 0) rfl) pa_nil))) (blkOk_by (own := [("numbers", 4)]) (by kernel_rfl)) (fun _ _ _ _ _ => (pg_name (i := 4) sc_answer_try.nd rfl (.inl rfl))) (fun _ _ _ _ _ => pts_nil) (fun _ _ _ _ _ => (pe_call (ok_most_of_one_outcome T) (hr.mono (by decide)) rfl T.most_of_one_outcome.m T.most_of_one_outcome.F.kp T.most_of_one_outcome.b .nil pass0 (pa_cons (pv 4) (pa_cons (pv 2) pa_nil)))))
   (pss_cons (ps_set (i := 5) sc_answer_try.nd rfl (.inl rfl) (pe_callB (mink K rfl rfl) rfl T.b_min boot_min (pa_cons (pv 3) pa_nil)))
   (pss_one (ps_ret (pe_lst (pa_cons pe_int (pa_cons (pe_bm PySem.F.plainAttrs_list PySem.F.slot_list_index PySem.F.type_list_index mt_index (pv 3) (pa_cons (pv 5) pa_nil)) (pa_cons (pv 5) pa_nil)))))))))), ?_⟩
  refine ⟨_, rfl, _, rfl, h, _, dx, _, _, rfl, hO, T.cl_House, T.n_House_outcomes, rfl, ou, _, rfl, DGet.k (k := Sum.inl (z : Int)) hou, _, rfl, ?_⟩
  cases o with
  | none =>
   have e : Vbrgad.step s (.try_ z) = (s, [-5]) := step_err hop (by
    show (match Vbrgad.table s z with | none => _ | some t => _) = _
    rw [table_at hzo])
   rw [e] at k
   rw [(hz z).2 hzo]
   exact iteT ⟨(by show 1 ≤ sizeLine; decide), fun p hp => k.one hA hp⟩
  | some row =>
   obtain ⟨rr, hv, hrr⟩ := (hz z).1 row hzo
   obtain ⟨hrl, hr9⟩ := ho.orow z row hzo
   obtain ⟨j, hj, hbest, hmin, hfirst⟩ := best_at (n := s.truth.length) (a := s.allowed) (row := row) hn1 ho.alen
   have estep : Vbrgad.step s (.try_ z) = (s, [0, (j : Int), ((Vbrgad.leftBy s.truth.length s.allowed row j : Nat) : Int)]) := step_ok hop (by
    show (match Vbrgad.table s z with | none => _ | some t => _) = _
    rw [table_at hzo]
    show Except.ok (s, [Vbrgad.nat (Vbrgad.best s.truth.length s.allowed row).1, Vbrgad.nat (Vbrgad.best s.truth.length s.allowed row).2]) = _
    rw [hbest]; rfl)
   rw [estep] at k
   rw [hv]
   refine iteF ?_
   refine ⟨_, rfl, h, _, dx, _, _, rfl, hO, T.cl_House, T.n_House_outcomes, rfl, _, rfl, ou, V.ref rr, rfl, hv ▸ DGet.k (k := Sum.inl (z : Int)) hou, ?_⟩
   refine ⟨_, rfl, h, _, dx, _, _, rfl, hO, T.cl_House, T.n_House_left, rfl, s.allowed, le, rfl, hA.tbl ho, (by rw [ho.alen]; exact ho.n1), (by rw [ho.alen]; exact ho.n10), fun H2 p2 s2 hp2 hN2 => ?_⟩
   obtain ⟨rs, hx, hP⟩ := hN2
   have hlr : (rs.map V.ref).length = s.truth.length := by rw [List.length_map, Paired.length hP]; unfold numTable; rw [List.length_map, List.length_range, ho.alen]
   refine ⟨p2, rfl, ⟨_, .of hx⟩, fun D hD => lcL (fun _ => true) (fun i => V.int ((Vbrgad.leftBy s.truth.length s.allowed row i : Nat) : Int)) hD (.of hx) ?_ ?_⟩
   ·intro i y H' hy p'
    obtain ⟨r, hr1, rfl⟩ := map_at hy
    obtain ⟨ns, hk1, hk2⟩ := paired_get hP hr1
    have hi : i < s.truth.length := by
     have := (List.getElem?_eq_some_iff.mp hy).1
     omega
    unfold numTable at hk1
    rw [range_map_at _ (by rw [ho.alen]; exact hi), ho.alen] at hk1
    cases hk1
    refine ⟨rfl, tYes_if ⟨_, rfl, _, rfl, _, row, r, rr, rfl, p'.same _ _ hk2, p'.same _ _ (s2 _ _ hrr), (by rw [List.length_map, List.length_range]; exact hrl.symm), (by omega), (by omega), hr9, fun H3 s3 => p'.yes s3 rfl ?_ (by omega)⟩⟩
    rw [worst_leftBy (by rw [ho.alen]; exact hi) hrl]
   ·intro H3 hs3 hd3
    have e3 : H3 D = some (.lst (((List.range s.truth.length).map fun i => ((Vbrgad.leftBy s.truth.length s.allowed row i : Nat) : Int)).map V.int)) := by
     rw [hd3, filter_tt, hlr, List.map_map]; rfl
    have s3 := s2.trans hs3
    refine ⟨_, rfl, D, _, rfl, .of e3, (by rw [List.length_map, List.length_range]; omega), fun m hm hmm => ?_⟩
    have em : m = ((Vbrgad.leftBy s.truth.length s.allowed row j : Nat) : Int) := by
     obtain ⟨i, hi, rfl⟩ := List.mem_map.mp hm
     have h1 := hmin i (List.mem_range.mp hi)
     have h2 := hmm _ (List.mem_map.mpr ⟨j, List.mem_range.mpr hj, rfl⟩)
     omega
    subst em
    have hat : (((List.range s.truth.length).map fun i => ((Vbrgad.leftBy s.truth.length s.allowed row i : Nat) : Int)).map V.int)[j]? = some (V.int ((Vbrgad.leftBy s.truth.length s.allowed row j : Nat) : Int)) := by
     rw [List.getElem?_map, range_map_at _ hj]; rfl
    refine ⟨_, rfl, .inl ⟨rfl, _, .of e3⟩, _, rfl, D, _, _, j, _, rfl, rfl, .of e3, rfl, ?_, hat, ?_, fun i z' hi hz' => ?_, ?_⟩
    ·rw [List.all_eq_true]
     intro v hv
     obtain ⟨x, _, rfl⟩ := List.mem_map.mp hv
     rfl
    ·show (((Vbrgad.leftBy s.truth.length s.allowed row j : Nat) : Int) == ((Vbrgad.leftBy s.truth.length s.allowed row j : Nat) : Int)) = true
     simp
    ·rw [List.getElem?_map, range_map_at _ (by omega)] at hz'
     cases hz'
     have h1 := hfirst i hi
     show (((Vbrgad.leftBy s.truth.length s.allowed row i : Nat) : Int) == ((Vbrgad.leftBy s.truth.length s.allowed row j : Nat) : Int)) = false
     exact beq_eq_false_iff_ne.mpr (by omega)
    ·exact ⟨_, rfl, (by show 3 ≤ sizeLine; decide), fun p hp => k.pure hA (s3.trans (Same.new hp)) (s3.free hp) upd_same⟩
theorem sum_cast (n : Nat) (f : Nat → Nat) : (((List.range n).map f).map fun (k : Nat) => (k : Int)).sum = ((sumR n f : Nat) : Int) := by
 unfold sumR
 induction n with
 | zero => rfl
 | succ n ih => rw [List.range_succ, List.map_append, List.map_append, List.sum_append, List.sum_append, ih]; simp
def sp_answer_odds (C : Addr) : Sp := fun vs H Q _ => ∃ (h le ou : Addr) (s : Vbrgad.State) (l kd : Nat), vs = [.ref h, .int l, .int kd] ∧ HouseAt C H h le ou s ∧ s.opened = true ∧ AnsTo C h le ou H (Vbrgad.step s (.odds l kd)) Q
theorem ok_answer_odds (T : Txt K mg a) : FnOk P w K mg base CX0 6 a.f_answer_odds a.d_answer_odds ["house", "look", "kind"] (sp_answer_odds a.C_House) := by
 refine T.answer_odds.F.ok sc_answer_odds (fun vs H Q E h => ?_) (fun cdv A outer s H vs Q E hr h => ?_)
 ·obtain ⟨h, le, ou, s, l, kd, rfl, _⟩ := h; rfl
 ·obtain ⟨h, le, ou, s, l, kd, rfl, hA, hop, k⟩ := h
  have ho := hA.ok.opened hop
  have hn10 := ho.n10
  obtain ⟨dx, tr, ls, ks, pr, hO, ht, _⟩ := hA.obj
  have refuse : ¬ (l < s.truth.length ∧ kd < s.truth.length) → Vbrgad.step s (.odds l kd) = (s, [-6]) := fun hn => step_err hop (by
   show (if s.truth.length ≤ l ∨ s.truth.length ≤ kd then _ else _) = _
   rw [if_pos (by omega)])
  refine ⟨_, (pss_cons (ps_if (L2.PW.pt (pw_or (pt_not (pt_val (pe_meth (pv 0) T.cl_House T.House_has.mt (ok_House_has T) (hr.mono (by decide)) T.House_has.b .nil pass0 (pa_cons (pv 1) pa_nil)))) (pw_or1 (pt_not (pt_val (pe_meth (pv 0) T.cl_House T.House_has.mt (ok_House_has T) (hr.mono (by decide)) T.House_has.b .nil pass0 (pa_cons (pv 2) pa_nil)))))))
    (pss_one (ps_ret (pe_lst (pa_cons (pe_gint rfl T.g_NO_SUCH) pa_nil))))
    pss_nil)
   (pss_cons (ps_set (i := 3) sc_answer_odds.nd rfl (.inl rfl) (pe_ix (ixk_list K rfl) (pe_call (ok_pairings_by_kind T) (hr.mono (by decide)) rfl T.pairings_by_kind.m T.pairings_by_kind.F.kp T.pairings_by_kind.b .nil pass0 (pa_cons (fldk K rfl (pv 0) rfl) pa_nil)) (pv 1) (fun _ _ => rfl)))
   (pss_one (ps_ret (pe_op op_cat (pe_lst (pa_cons pe_int pa_nil)) (pe_call (ok_lowest_terms T) (hr.mono (by decide)) rfl T.lowest_terms.m T.lowest_terms.F.kp T.lowest_terms.b .nil pass0 (pa_cons (pe_ix (ixk_list K rfl) (pv 3) (pv 2) (fun _ _ => rfl)) (pa_cons (pe_callB (sumk K rfl rfl) rfl T.b_sum boot_sum (pa_cons (pv 3) pa_nil)) pa_nil)))))))), ?_⟩
  refine ⟨_, rfl, h, dx, _, rfl, hO, rfl, _, rfl, h, le, ou, s, l, rfl, hA, _, rfl, ?_⟩
  by_cases hl : l < s.truth.length
  ·rw [decide_eq_true hl]
   refine iteF ⟨_, rfl, h, dx, _, rfl, hO, rfl, _, rfl, h, le, ou, s, kd, rfl, hA, _, rfl, ?_⟩
   by_cases hkd : kd < s.truth.length
   ·rw [decide_eq_true hkd]
    have hla : l < s.allowed.length := by rw [ho.alen]; exact hl
    obtain ⟨pa, hpa⟩ : ∃ pa, pa = Vbrgad.countWith s.truth.length s.allowed l kd := ⟨_, rfl⟩
    obtain ⟨wh, hwh⟩ : ∃ wh, wh = Vbrgad.count s.truth.length s.allowed := ⟨_, rfl⟩
    have hw0 : 0 < wh := by rw [hwh]; exact truth_fits ho
    have hws : wh ≤ 3628800 := by rw [hwh]; exact count_small _ hn10
    have hps : pa ≤ wh := by rw [hpa, hwh]; exact countWith_le hla hkd
    have estep : Vbrgad.step s (.odds l kd) = (s, [0, ((pa / Nat.gcd pa wh : Nat) : Int), ((wh / Nat.gcd pa wh : Nat) : Int)]) := step_ok hop (by
     show (if s.truth.length ≤ l ∨ s.truth.length ≤ kd then _ else _) = _
     rw [if_neg (by omega), hpa, hwh]; rfl)
    rw [estep] at k
    refine iteF ⟨_, rfl, h, _, dx, _, _, rfl, hO, T.cl_House, T.n_House_left, rfl, s.allowed, le, rfl, hA.tbl ho, (by rw [ho.alen]; exact ho.n1), (by rw [ho.alen]; exact ho.n10), fun H2 p2 s2 hp2 hN2 => ?_⟩
    obtain ⟨rs, r, hx, _, hr1, hr2⟩ := LeftAt.at hN2 (i := l) (range_map_at _ hla)
    rw [ho.alen] at hr2
    refine ⟨_, rfl, p2, _, _, _, rfl, rfl, .of hx, atI_nat (at_map hr1), (by show 1 ≤ sizeLine; decide), fun z hz => ?_⟩
    have s3 := s2.trans (Same.new (o := .lst [V.int 0]) hz)
    have hr3 := Same.new (o := .lst [V.int 0]) hz _ _ hr2
    have hat : (nI ((List.range s.truth.length).map (Vbrgad.countWith s.truth.length s.allowed l)))[kd]? = some (V.int (pa : Int)) := by
     unfold nI
     rw [List.getElem?_map, range_map_at _ hkd, hpa]; rfl
    refine ⟨_, rfl, _, rfl, r, _, _, _, rfl, rfl, .of hr3, atI_nat hat, _, rfl, r, _, rfl, .of (by rw [← nI_eq]; exact hr3), ?_⟩
    rw [sum_cast, ← count_eq_sum hla, ← hwh]
    refine ⟨pa, wh, rfl, hw0, (by omega), (by omega), fun H4 p4 s4 hp4 hq4 => ?_⟩
    refine ⟨z, p4, _, _, rfl, rfl, s4 _ _ upd_same, hq4, (by show 1 + 2 ≤ sizeLine; decide), fun p hp => ?_⟩
    have s5 := s3.trans s4
    exact k.pure hA (s5.trans (Same.new hp)) (s5.free hp) upd_same
   ·rw [decide_eq_false hkd]
    rw [refuse (fun q => hkd q.2)] at k
    exact iteT ⟨(by show 1 ≤ sizeLine; decide), fun p hp => k.one hA hp⟩
  ·rw [decide_eq_false hl]
   rw [refuse (fun q => hl q.1)] at k
   exact iteT (iteT ⟨(by show 1 ≤ sizeLine; decide), fun p hp => k.one hA hp⟩)
def sp_answer_fits (C : Addr) : Sp := fun vs H Q _ => ∃ (h le ou r : Addr) (s : Vbrgad.State) (row : List Nat), vs = [.ref h, .ref r] ∧ HouseAt C H h le ou s ∧ s.opened = true ∧ row.length ≤ 10 ∧ H r = some (.lst (nI row)) ∧ AnsTo C h le ou H (Vbrgad.step s (.fits row)) Q
theorem ok_answer_fits (T : Txt K mg a) : FnOk P w K mg base CX0 3 a.f_answer_fits a.d_answer_fits ["house", "row"] (sp_answer_fits a.C_House) := by
 refine T.answer_fits.F.ok sc_answer_fits (fun vs H Q E h => ?_) (fun cdv A outer s H vs Q E hr h => ?_)
 ·obtain ⟨h, le, ou, r, s, row, rfl, _⟩ := h; rfl
 ·obtain ⟨h, le, ou, r, s, row, rfl, hA, hop, hl10, hrr, k⟩ := h
  have ho := hA.ok.opened hop
  obtain ⟨dx, tr, ls, ks, pr, hO, ht, _⟩ := hA.obj
  have estep : Vbrgad.step s (.fits row) = (s, [0, Vbrgad.flag (Vbrgad.fits s.truth.length s.allowed row)]) := step_ok hop rfl
  rw [estep] at k
  refine ⟨_, (pss_one (ps_ret (pe_lst (pa_cons pe_int (pa_cons (pe_ifExp (pt_val (pe_call (ok_does_fit T) (hr.mono (by decide)) rfl T.does_fit.m T.does_fit.F.kp T.does_fit.b .nil pass0 (pa_cons (fldk K rfl (pv 0) rfl) (pa_cons (pv 1) pa_nil)))) pe_int pe_int) pa_nil))))), ?_⟩
  refine ⟨_, rfl, h, _, dx, _, _, rfl, hO, T.cl_House, T.n_House_left, rfl, _, rfl, s.allowed, row, le, r, rfl, hA.tbl ho, (by rw [ho.alen]; exact ho.n10), hl10, hrr, fun H2 s2 => ⟨_, rfl, ?_⟩⟩
  rw [ho.alen]
  cases hf : Vbrgad.fits s.truth.length s.allowed row with
  | true =>
   rw [hf] at k
   exact iteT ⟨(by show 2 ≤ sizeLine; decide), fun p hp => k.pure hA (s2.trans (Same.new hp)) (s2.free hp) upd_same⟩
  | false =>
   rw [hf] at k
   exact iteF ⟨(by show 2 ≤ sizeLine; decide), fun p hp => k.pure hA (s2.trans (Same.new hp)) (s2.free hp) upd_same⟩
theorem first_length (n : Nat) : ∀ (f l : Nat) (b : Vbrgad.Table), (Vbrgad.firstFrom n f l b).length ≤ f
 | 0, _, _ => Nat.le_refl _
 | f + 1, l, b => by
  show (match (List.range n).find? (Vbrgad.possible n b l) with
   | none => []
   | some k => k :: Vbrgad.firstFrom n f (l + 1) (Vbrgad.narrowed (fun j => j == k) l b)).length ≤ f + 1
  split
  ·exact Nat.zero_le _
  ·rw [List.length_cons]
   exact Nat.succ_le_succ (first_length n f _ _)
def sp_answer_first (C : Addr) : Sp := fun vs H Q _ => ∃ (h le ou : Addr) (s : Vbrgad.State), vs = [.ref h] ∧ HouseAt C H h le ou s ∧ s.opened = true ∧ AnsTo C h le ou H (Vbrgad.step s .first) Q
theorem ok_answer_first (T : Txt K mg a) : FnOk P w K mg base CX0 6 a.f_answer_first a.d_answer_first ["house"] (sp_answer_first a.C_House) := by
 refine T.answer_first.F.ok sc_answer_first (fun vs H Q E h => ?_) (fun cdv A outer s H vs Q E hr h => ?_)
 ·obtain ⟨h, le, ou, s, rfl, _⟩ := h; rfl
 ·obtain ⟨h, le, ou, s, rfl, hA, hop, k⟩ := h
  have ho := hA.ok.opened hop
  have hn10 := ho.n10
  obtain ⟨dx, tr, ls, ks, pr, hO, ht, _⟩ := hA.obj
  have estep : Vbrgad.step s .first = (s, 0 :: (Vbrgad.first s.truth.length s.allowed).map Vbrgad.nat) := step_ok hop rfl
  rw [estep] at k
  refine ⟨_, (pss_one (ps_ret (pe_op op_cat (pe_lst (pa_cons pe_int pa_nil)) (pe_call (ok_first_pairing T) (hr.mono (by decide)) rfl T.first_pairing.m T.first_pairing.F.kp T.first_pairing.b .nil pass0 (pa_cons (fldk K rfl (pv 0) rfl) pa_nil))))), ?_⟩
  refine ⟨(by show 1 ≤ sizeLine; decide), fun z hz => ?_⟩
  have s1 := Same.new (o := .lst [V.int 0]) hz
  refine ⟨_, rfl, h, _, dx, _, _, rfl, s1 _ _ hO, T.cl_House, T.n_House_left, rfl, s.allowed, le, rfl, (hA.tbl ho).same s1, (by rw [ho.alen]; exact ho.n1), (by rw [ho.alen]; exact ho.n10), (by rw [ho.alen]; exact truth_fits ho), fun H2 p2 s2 hp2 hf2 => ?_⟩
  rw [ho.alen] at hf2
  refine ⟨z, p2, _, _, rfl, rfl, s2 _ _ upd_same, hf2, ?_, fun p hp => ?_⟩
  ·rw [nI_length]
   have := first_length s.truth.length s.truth.length 0 s.allowed
   show 1 + (Vbrgad.firstFrom s.truth.length s.truth.length 0 s.allowed).length ≤ sizeLine
   exact Nat.le_of_lt (small1000 (by omega))
  ·have s3 := s1.trans s2
   refine k.pure hA (s3.trans (Same.new hp)) (s3.free hp) ?_
   rw [upd_same, ans_cat]
theorem foldl_min_eq : ∀ {l : List Int} {m b : Int}, (m ∈ l ∨ m = b) → (∀ y ∈ l, m ≤ y) → m ≤ b → l.foldl min b = m
 | [], m, b, h1, _, _ => by
  rcases h1 with h | h
  ·simp at h
  ·exact h.symm
 | x :: l, m, b, h1, h2, h3 => by
  rw [List.foldl_cons]
  have hx := h2 x (List.mem_cons_self ..)
  refine foldl_min_eq ?_ (fun y hy => h2 y (List.mem_cons_of_mem _ hy)) (by omega)
  rcases h1 with h | h
  ·rcases List.mem_cons.mp h with h | h
   ·exact .inr (by omega)
   ·exact .inl h
  ·exact .inr (by omega)
theorem foldl_max_eqI : ∀ {l : List Int} {m b : Int}, (m ∈ l ∨ m = b) → (∀ y ∈ l, y ≤ m) → b ≤ m → l.foldl max b = m
 | [], m, b, h1, _, _ => by
  rcases h1 with h | h
  ·simp at h
  ·exact h.symm
 | x :: l, m, b, h1, h2, h3 => by
  rw [List.foldl_cons]
  have hx := h2 x (List.mem_cons_self ..)
  refine foldl_max_eqI ?_ (fun y hy => h2 y (List.mem_cons_of_mem _ hy)) (by omega)
  rcases h1 with h | h
  ·rcases List.mem_cons.mp h with h | h
   ·exact .inr (by omega)
   ·exact .inl h
  ·exact .inr (by omega)
def sp_answer_worth (C : Addr) : Sp := fun vs H Q _ => ∃ (h le ou : Addr) (s : Vbrgad.State) (l : Nat), vs = [.ref h, .int l] ∧ HouseAt C H h le ou s ∧ s.opened = true ∧ AnsTo C h le ou H (Vbrgad.step s (.worth l)) Q
theorem ok_answer_worth (T : Txt K mg a) : FnOk P w K mg base CX0 7 a.f_answer_worth a.d_answer_worth ["house", "look"] (sp_answer_worth a.C_House) := by
 refine T.answer_worth.F.ok sc_answer_worth (fun vs H Q E h => ?_) (fun cdv A outer s H vs Q E hr h => ?_)
 ·obtain ⟨h, le, ou, s, l, rfl, _⟩ := h; rfl
 ·obtain ⟨h, le, ou, s, l, rfl, hA, hop, k⟩ := h
  have ho := hA.ok.opened hop
  have hn10 := ho.n10
  obtain ⟨dx, tr, ls, ks, pr, hO, ht, _, _, hpr⟩ := hA.obj
  refine ⟨_, (pss_cons (ps_if (pt_not (pt_val (pe_meth (pv 0) T.cl_House T.House_has.mt (ok_House_has T) (hr.mono (by decide)) T.House_has.b .nil pass0 (pa_cons (pv 1) pa_nil))))
    (pss_one (ps_ret (pe_lst (pa_cons (pe_gint rfl T.g_NO_SUCH) pa_nil))))
    pss_nil)
   (pss_cons (by first | exact ps_set (i := 2) sc_answer_worth.nd rfl (.inl rfl) (pe_lc rfl sc_answer_worth.nd (pi_list (pe_ix (ixk_list K rfl) (pe_call (ok_possible_kinds T) (hr.mono (by decide)) rfl T.possible_kinds.m T.possible_kinds.F.kp T.possible_kinds.b .nil pass0 (pa_cons (fldk K rfl (pv 0) rfl) pa_nil)) (pv 1) (fun _ _ => rfl))) (blkOk_by (own := [("kind", 3)]) (by kernel_rfl)) (fun _ _ _ _ _ => (pg_name (i := 3) sc_answer_worth.nd rfl (.inl rfl))) (fun _ _ _ _ _ => pts_nil) (fun _ _ _ _ _ => (pe_ix (ixk_list K rfl) (fldk K rfl (pv 0) rfl) (pv 3) (fun _ _ => rfl)))) | exact ps_setLc (i := 2) rfl sc_answer_worth.nd rfl rfl (sw_true rfl rfl rfl (by decide +kernel)) (pi_list (pe_ix (ixk_list K rfl) (pe_call (ok_possible_kinds T) (hr.mono (by decide)) rfl T.possible_kinds.m T.possible_kinds.F.kp T.possible_kinds.b .nil pass0 (pa_cons (fldk K rfl (pv 0) rfl) pa_nil)) (pv 1) (fun _ _ => rfl))) (blkOk_by (own := [("kind", 3)]) (by kernel_rfl)) (fun _ _ _ _ _ => (pg_name (i := 3) sc_answer_worth.nd rfl (.inl rfl))) (fun _ _ _ _ _ => pts_nil) (fun _ _ _ _ _ => (pe_ix (ixk_list K rfl) (fldk K rfl (pv 0) rfl) (pv 3) (fun _ _ => rfl))))
   (pss_one (ps_ret (pe_lst (pa_cons pe_int (pa_cons (pe_callB (mink K rfl rfl) rfl T.b_min boot_min (pa_cons (pv 2) pa_nil)) (pa_cons (pe_callB (maxk K rfl rfl) rfl T.b_max boot_max (pa_cons (pv 2) pa_nil)) pa_nil)))))))), ?_⟩
  refine ⟨_, rfl, h, dx, _, rfl, hO, rfl, _, rfl, h, le, ou, s, l, rfl, hA, _, rfl, ?_⟩
  by_cases hl : l < s.truth.length
  ·rw [decide_eq_true hl]
   have hla : l < s.allowed.length := by rw [ho.alen]; exact hl
   obtain ⟨ps, hps⟩ : ∃ ps, ps = (List.range s.truth.length).filter (Vbrgad.possible s.truth.length s.allowed l) := ⟨_, rfl⟩
   have estep : Vbrgad.step s (.worth l) = (s, [0, (ps.map (Vbrgad.priceOf s)).foldl min 1000000, (ps.map (Vbrgad.priceOf s)).foldl max 0]) := step_ok hop (by
    show (if s.truth.length ≤ l then _ else _) = _
    rw [if_neg (by omega), hps]; rfl)
   rw [estep] at k
   have hpn : ∀ kd ∈ ps, kd < s.truth.length := fun kd hkd => by
    rw [hps] at hkd
    exact List.mem_range.mp (List.mem_filter.mp hkd).1
   have hpr2 : ∀ y ∈ ps.map (Vbrgad.priceOf s), 1 ≤ y ∧ y ≤ 1000000 := fun y hy => by
    obtain ⟨kd, hkd, rfl⟩ := List.mem_map.mp hy
    have hi : kd < s.prices.length := by rw [ho.plen]; exact hpn kd hkd
    rw [priceOf_at (List.getElem?_eq_getElem hi)]
    exact ho.prange _ (List.getElem_mem hi)
   have hne : 0 < (ps.map (Vbrgad.priceOf s)).length := by
    rw [List.length_map]
    have hkd : s.truth[l]? = some s.truth[l] := List.getElem?_eq_getElem hl
    refine List.length_pos_of_mem (a := s.truth[l]) ?_
    rw [hps]
    exact List.mem_filter.mpr ⟨List.mem_range.mpr (ho.tlt _ (List.getElem_mem hl)), truth_possible ho hkd⟩
   have hpl : ps.length ≤ 10 := by rw [hps]; exact range_small hn10
   refine iteF ⟨_, rfl, h, _, dx, _, _, rfl, hO, T.cl_House, T.n_House_left, rfl, s.allowed, le, rfl, hA.tbl ho, (by rw [ho.alen]; exact ho.n1), (by rw [ho.alen]; exact ho.n10), fun H2 p2 s2 hp2 hL2 => ?_⟩
   obtain ⟨rs, r, hx, _, hr1, hr2⟩ := LeftAt.at hL2.at (i := l) (range_map_at _ hla)
   rw [ho.alen, ← hps] at hr2
   refine ⟨_, rfl, p2, _, _, _, rfl, rfl, .of hx, atI_nat (at_map hr1), r, rfl, ⟨_, .of hr2⟩, fun D hD => lcL (fun _ => true) (fun i => V.int (Vbrgad.priceOf s (ps.getD i 0))) hD (.of hr2) ?_ ?_⟩
   ·intro i y H' hy p'
    obtain ⟨kd, hkd, rfl⟩ := map_at hy
    have hkn : kd < s.truth.length := hpn kd (List.mem_of_getElem? hkd)
    have hgi : ps.getD i 0 = kd := by rw [List.getD_eq_getElem?_getD, hkd]; rfl
    have hi : kd < s.prices.length := by rw [ho.plen]; exact hkn
    refine ⟨rfl, tYes_if ⟨_, rfl, h, _, dx, _, _, rfl, p'.same _ _ (s2 _ _ hO), T.cl_House, T.n_House_prices, rfl, _, rfl, pr, _, _, _, rfl, rfl, .of (p'.same _ _ (s2 _ _ hpr)), atI_nat (at_map (List.getElem?_eq_getElem hi)), p'.yes (Same.refl _) rfl ?_ ?_⟩⟩
    ·rw [hgi, priceOf_at (List.getElem?_eq_getElem hi)]
    ·have := (List.getElem?_eq_some_iff.mp hkd).1
     omega
   ·intro H3 hs3 hd3
    have e3 : H3 D = some (.lst ((ps.map (Vbrgad.priceOf s)).map V.int)) := by
     rw [hd3, filter_tt, nI_length, List.map_map]
     congr 2
     refine range_map_get _ _ _ fun i x hx => ?_
     rw [List.getD_eq_getElem?_getD, hx]; rfl
    have s3 := s2.trans hs3
    refine ⟨_, rfl, D, _, rfl, .of e3, hne, fun lo hlo hlom => ⟨_, rfl, D, _, rfl, .of e3, hne, fun hi hhi hhim => ?_⟩⟩
    have e1 := foldl_min_eq (b := 1000000) (.inl hlo) hlom (hpr2 lo hlo).2
    have e2 := foldl_max_eqI (b := 0) (.inl hhi) hhim (by have := (hpr2 hi hhi).1; omega)
    rw [e1, e2] at k
    exact ⟨(by show 3 ≤ sizeLine; decide), fun p hp => k.pure hA (s3.trans (Same.new hp)) (s3.free hp) upd_same⟩
  ·have e : Vbrgad.step s (.worth l) = (s, [-6]) := step_err hop (by
    show (if s.truth.length ≤ l then _ else _) = _
    rw [if_pos (by omega)])
   rw [e] at k
   rw [decide_eq_false hl]
   exact iteT ⟨(by show 1 ≤ sizeLine; decide), fun p hp => k.one hA hp⟩
def sp_answer_state (C : Addr) : Sp := fun vs H Q _ => ∃ (h le ou : Addr) (s : Vbrgad.State), vs = [.ref h] ∧ HouseAt C H h le ou s ∧ s.opened = true ∧ AnsTo C h le ou H (Vbrgad.step s .state) Q
theorem ok_answer_state (T : Txt K mg a) : FnOk P w K mg base CX0 1 a.f_answer_state a.d_answer_state ["house"] (sp_answer_state a.C_House) := by
 refine T.answer_state.F.ok sc_answer_state (fun vs H Q E h => ?_) (fun cdv A outer s H vs Q E hr h => ?_)
 ·obtain ⟨h, le, ou, s, rfl, _⟩ := h; rfl
 ·obtain ⟨h, le, ou, s, rfl, hA, hop, k⟩ := h
  have ho := hA.ok.opened hop
  have hn10 := ho.n10
  have hl1 := ho.llen
  have hl2 := ho.klen
  obtain ⟨dx, tr, ls, ks, pr, hO, ht, hls, hks, _⟩ := hA.obj
  have estep : Vbrgad.step s .state = (s, 0 :: ([Vbrgad.nat s.truth.length, Vbrgad.nat s.shown] ++ (s.lookSorts.map Vbrgad.nat ++ s.kindSorts.map Vbrgad.nat))) := step_ok hop rfl
  rw [estep] at k
  refine ⟨_, (pss_one (ps_ret (pe_op op_cat (pe_op op_cat (pe_lst (pa_cons pe_int (pa_cons (pe_callB (lenk K rfl) rfl T.b_len boot_len (pa_cons (fldk K rfl (pv 0) rfl) pa_nil)) (pa_cons (fldk K rfl (pv 0) rfl) pa_nil)))) (fldk K rfl (pv 0) rfl)) (fldk K rfl (pv 0) rfl)))), ?_⟩
  refine ⟨_, rfl, h, _, dx, _, _, rfl, hO, T.cl_House, T.n_House_truth, rfl, tr, _, rfl, .inl (.of ht), _, rfl, h, _, dx, _, _, rfl, hO, T.cl_House, T.n_House_shown, rfl, (by show 3 ≤ sizeLine; decide), fun z hz => ?_⟩
  rw [nI_length] at *
  have s1 := Same.new (o := .lst [V.int 0, V.int ((s.truth.length : Nat) : Int), V.int (s.shown : Int)]) hz
  refine ⟨_, rfl, h, _, dx, _, _, rfl, s1 _ _ hO, T.cl_House, T.n_House_look_sorts, rfl, z, ls, _, _, rfl, rfl, upd_same, s1 _ _ hls, ?_, fun z2 hz2 => ?_⟩
  ·rw [nI_length]
   show 3 + _ ≤ sizeLine
   exact Nat.le_of_lt (small1000 (by omega))
  ·have s2 := s1.trans (Same.new (o := .lst ([V.int 0, V.int ((s.truth.length : Nat) : Int), V.int (s.shown : Int)] ++ nI s.lookSorts)) hz2)
   refine ⟨_, rfl, h, _, dx, _, _, rfl, s2 _ _ hO, T.cl_House, T.n_House_kind_sorts, rfl, z2, ks, _, _, rfl, rfl, upd_same, s2 _ _ hks, ?_, fun p hp => ?_⟩
   ·rw [List.length_append, nI_length, nI_length]
    show 3 + _ + _ ≤ sizeLine
    exact Nat.le_of_lt (small1000 (by omega))
   ·refine k.pure hA (s2.trans (Same.new hp)) (s2.free hp) ?_
    rw [upd_same, nI_eq, nI_eq, List.map_cons, List.map_append, List.map_append]
    rfl
end UK
set_option Elab.async false
set_option linter.all false
set_option maxRecDepth 100000
set_option maxHeartbeats 4000000
namespace UK
open PySem PySem.Spec PyProof.Rows L2
variable {P : Program} {w : World} {K : PySem.W.Frag} {mg : Str → Option Value} {base : Heap} {a : Ads}
/-! ### a call by its place, its numbers, its rows -/
abbrev castI (l : List Nat) : List Int := l.map fun (k : Nat) => (k : Int)
def RowIn (hi : Nat) (l : List Nat) : Prop := l.length ≤ 10 ∧ ∀ x ∈ l, x ≤ hi
inductive CallAs : Int → List Int → List (List Int) → Vbrgad.Call → Prop
 | opens (t l k : List Nat) (p : List Int) (ht : RowIn 9 t) (hl : RowIn 5 l) (hk : RowIn 5 k) (hp : p.length ≤ 10 ∧ ∀ x ∈ p, 1 ≤ x ∧ x ≤ 1000000) : CallAs 0 [] [castI t, castI l, castI k, p] (.opens t l k p)
 | outcomes (z : Nat) (r : List Nat) (hz : z ≤ 7) (hr : RowIn 9 r) : CallAs 1 [(z : Int)] [castI r] (.outcomes z r)
 | use (l z : Nat) (hz : z ≤ 7) : CallAs 2 [(l : Int), (z : Int)] [] (.use l z)
 | offer (l : Nat) (d : Bool) : CallAs 3 [(l : Int), if d = true then 1 else 0] [] (.offer l d)
 | tell (l : Nat) : CallAs 4 [(l : Int)] [] (.tell l)
 | ask (l k : Nat) : CallAs 5 [(l : Int), (k : Int)] [] (.ask l k)
 | possible (l : Nat) : CallAs 6 [(l : Int)] [] (.possible l)
 | certain : CallAs 7 [] [] .certain
 | count : CallAs 8 [] [] .count
 | allowed (l : Nat) : CallAs 9 [(l : Int)] [] (.allowed l)
 | why (l k : Nat) : CallAs 10 [(l : Int), (k : Int)] [] (.why l k)
 | try_ (z : Nat) (hz : z ≤ 7) : CallAs 11 [(z : Int)] [] (.try_ z)
 | odds (l k : Nat) : CallAs 12 [(l : Int), (k : Int)] [] (.odds l k)
 | fits (r : List Nat) (hr : RowIn 9 r) : CallAs 13 [] [castI r] (.fits r)
 | first : CallAs 14 [] [] .first
 | worth (l : Nat) : CallAs 15 [(l : Int)] [] (.worth l)
 | state : CallAs 16 [] [] .state
theorem row1 {H : Hp} {x : Addr} {r : List Nat} (h : RowsAt H x [castI r]) : ∃ q, H x = some (.lst [V.ref q]) ∧ H q = some (.lst (nI r)) := by
 obtain ⟨rs, h1, h2⟩ := h
 cases h2 with
 | cons e t => cases t; exact ⟨_, h1, by rw [nI_eq]; exact e⟩
theorem row4 {H : Hp} {x : Addr} {t l k : List Nat} {p : List Int} (h : RowsAt H x [castI t, castI l, castI k, p]) : ∃ q1 q2 q3 q4, H x = some (.lst [V.ref q1, V.ref q2, V.ref q3, V.ref q4]) ∧ H q1 = some (.lst (nI t)) ∧ H q2 = some (.lst (nI l)) ∧ H q3 = some (.lst (nI k)) ∧ H q4 = some (.lst (p.map V.int)) := by
 obtain ⟨rs, h1, h2⟩ := h
 cases h2 with
 | cons e1 h2 => cases h2 with
  | cons e2 h2 => cases h2 with
   | cons e3 h2 => cases h2 with
    | cons e4 h2 =>
     cases h2
     exact ⟨_, _, _, _, h1, by rw [nI_eq]; exact e1, by rw [nI_eq]; exact e2, by rw [nI_eq]; exact e3, e4⟩
def sp_answer_question (C : Addr) : Sp := fun vs H Q _ => ∃ (h le ou xn xr : Addr) (s : Vbrgad.State) (pl : Int) (nums : List Int) (rows : List (List Int)) (c : Vbrgad.Call), vs = [.ref h, .int pl, .ref xn, .ref xr] ∧ HouseAt C H h le ou s ∧ s.opened = true ∧
 H xn = some (.lst (nums.map V.int)) ∧ RowsAt H xr rows ∧ CallAs pl nums rows c ∧ 6 ≤ pl ∧ AnsTo C h le ou H (Vbrgad.step s c) Q
theorem ok_answer_question (T : Txt K mg a) : FnOk P w K mg base CX0 8 a.f_answer_question a.d_answer_question ["house", "place", "numbers", "rows"] (sp_answer_question a.C_House) := by
 refine T.answer_question.F.ok sc_answer_question (fun vs H Q E h => ?_) (fun cdv A outer s H vs Q E hr h => ?_)
 ·obtain ⟨h, le, ou, xn, xr, s, pl, nums, rows, c, rfl, _⟩ := h; rfl
 ·obtain ⟨h, le, ou, xn, xr, s, pl, nums, rows, c, rfl, hA, hop, hxn, hxr, hc, h6, k⟩ := h
  refine ⟨_, (pss_cons (ps_if (pt_cmpR op_eq (pv 1) pe_int (nomark _))
    (pss_one (ps_ret (pe_call (ok_answer_possible T) (hr.mono (by decide)) rfl T.answer_possible.m T.answer_possible.F.kp T.answer_possible.b .nil pass0 (pa_cons (pv 0) (pa_cons (pe_ix (ixk_list K rfl) (pv 2) pe_int (fun _ _ => rfl)) pa_nil)))))
    pss_nil)
   (pss_cons (ps_if (pt_cmpR op_eq (pv 1) pe_int (nomark _))
    (pss_one (ps_ret (pe_call (ok_answer_certain T) (hr.mono (by decide)) rfl T.answer_certain.m T.answer_certain.F.kp T.answer_certain.b .nil pass0 (pa_cons (pv 0) pa_nil))))
    pss_nil)
   (pss_cons (ps_if (pt_cmpR op_eq (pv 1) pe_int (nomark _))
    (pss_one (ps_ret (pe_call (ok_answer_count T) (hr.mono (by decide)) rfl T.answer_count.m T.answer_count.F.kp T.answer_count.b .nil pass0 (pa_cons (pv 0) pa_nil))))
    pss_nil)
   (pss_cons (ps_if (pt_cmpR op_eq (pv 1) pe_int (nomark _))
    (pss_one (ps_ret (pe_call (ok_answer_left T) (hr.mono (by decide)) rfl T.answer_left.m T.answer_left.F.kp T.answer_left.b .nil pass0 (pa_cons (pv 0) (pa_cons (pe_ix (ixk_list K rfl) (pv 2) pe_int (fun _ _ => rfl)) pa_nil)))))
    pss_nil)
   (pss_cons (ps_if (pt_cmpR op_eq (pv 1) pe_int (nomark _))
    (pss_one (ps_ret (pe_call (ok_answer_why T) (hr.mono (by decide)) rfl T.answer_why.m T.answer_why.F.kp T.answer_why.b .nil pass0 (pa_cons (pv 0) (pa_cons (pe_ix (ixk_list K rfl) (pv 2) pe_int (fun _ _ => rfl)) (pa_cons (pe_ix (ixk_list K rfl) (pv 2) pe_int (fun _ _ => rfl)) pa_nil))))))
    pss_nil)
   (pss_cons (ps_if (pt_cmpR op_eq (pv 1) pe_int (nomark _))
    (pss_one (ps_ret (pe_call (ok_answer_try T) (hr.mono (by decide)) rfl T.answer_try.m T.answer_try.F.kp T.answer_try.b .nil pass0 (pa_cons (pv 0) (pa_cons (pe_ix (ixk_list K rfl) (pv 2) pe_int (fun _ _ => rfl)) pa_nil)))))
    pss_nil)
   (pss_cons (ps_if (pt_cmpR op_eq (pv 1) pe_int (nomark _))
    (pss_one (ps_ret (pe_call (ok_answer_odds T) (hr.mono (by decide)) rfl T.answer_odds.m T.answer_odds.F.kp T.answer_odds.b .nil pass0 (pa_cons (pv 0) (pa_cons (pe_ix (ixk_list K rfl) (pv 2) pe_int (fun _ _ => rfl)) (pa_cons (pe_ix (ixk_list K rfl) (pv 2) pe_int (fun _ _ => rfl)) pa_nil))))))
    pss_nil)
   (pss_cons (ps_if (pt_cmpR op_eq (pv 1) pe_int (nomark _))
    (pss_one (ps_ret (pe_call (ok_answer_fits T) (hr.mono (by decide)) rfl T.answer_fits.m T.answer_fits.F.kp T.answer_fits.b .nil pass0 (pa_cons (pv 0) (pa_cons (pe_ix (ixk_list K rfl) (pv 3) pe_int (fun _ _ => rfl)) pa_nil)))))
    pss_nil)
   (pss_cons (ps_if (pt_cmpR op_eq (pv 1) pe_int (nomark _))
    (pss_one (ps_ret (pe_call (ok_answer_first T) (hr.mono (by decide)) rfl T.answer_first.m T.answer_first.F.kp T.answer_first.b .nil pass0 (pa_cons (pv 0) pa_nil))))
    pss_nil)
   (pss_cons (ps_if (pt_cmpR op_eq (pv 1) pe_int (nomark _))
    (pss_one (ps_ret (pe_call (ok_answer_worth T) (hr.mono (by decide)) rfl T.answer_worth.m T.answer_worth.F.kp T.answer_worth.b .nil pass0 (pa_cons (pv 0) (pa_cons (pe_ix (ixk_list K rfl) (pv 2) pe_int (fun _ _ => rfl)) pa_nil)))))
    pss_nil)
   (pss_one (ps_ret (pe_call (ok_answer_state T) (hr.mono (by decide)) rfl T.answer_state.m T.answer_state.F.kp T.answer_state.b .nil pass0 (pa_cons (pv 0) pa_nil)))))))))))))), ?_⟩
  cases hc with
  | opens t l kk p ht hl hk hp => exact absurd h6 (by decide)
  | outcomes z r hz hr => exact absurd h6 (by decide)
  | use l z hz => exact absurd h6 (by decide)
  | offer l d => exact absurd h6 (by decide)
  | tell l => exact absurd h6 (by decide)
  | ask l kd => exact absurd h6 (by decide)
  | possible l =>
   exact ⟨_, rfl, rfl, _, rfl, iteT ⟨_, rfl, _, rfl, xn, _, _, _, rfl, rfl, .of hxn, atI_nat (j := 0) rfl, h, le, ou, s, l, rfl, hA, hop, k⟩⟩
  | certain =>
   refine ⟨_, rfl, rfl, _, rfl, iteF ?_⟩
   exact ⟨_, rfl, rfl, _, rfl, iteT ⟨_, rfl, h, le, ou, s, rfl, hA, hop, k⟩⟩
  | count =>
   iterate 2 refine ⟨_, rfl, rfl, _, rfl, iteF ?_⟩
   exact ⟨_, rfl, rfl, _, rfl, iteT ⟨_, rfl, h, le, ou, s, rfl, hA, hop, k⟩⟩
  | allowed l =>
   iterate 3 refine ⟨_, rfl, rfl, _, rfl, iteF ?_⟩
   exact ⟨_, rfl, rfl, _, rfl, iteT ⟨_, rfl, _, rfl, xn, _, _, _, rfl, rfl, .of hxn, atI_nat (j := 0) rfl, h, le, ou, s, l, rfl, hA, hop, k⟩⟩
  | why l kd =>
   iterate 4 refine ⟨_, rfl, rfl, _, rfl, iteF ?_⟩
   exact ⟨_, rfl, rfl, _, rfl, iteT ⟨_, rfl, _, rfl, xn, _, _, _, rfl, rfl, .of hxn, atI_nat (j := 0) rfl, _, rfl, xn, _, _, _, rfl, rfl, .of hxn, atI_nat (j := 1) rfl, h, le, ou, s, l, kd, rfl, hA, hop, k⟩⟩
  | try_ z hz =>
   iterate 5 refine ⟨_, rfl, rfl, _, rfl, iteF ?_⟩
   exact ⟨_, rfl, rfl, _, rfl, iteT ⟨_, rfl, _, rfl, xn, _, _, _, rfl, rfl, .of hxn, atI_nat (j := 0) rfl, h, le, ou, s, z, rfl, hA, hop, hz, k⟩⟩
  | odds l kd =>
   iterate 6 refine ⟨_, rfl, rfl, _, rfl, iteF ?_⟩
   exact ⟨_, rfl, rfl, _, rfl, iteT ⟨_, rfl, _, rfl, xn, _, _, _, rfl, rfl, .of hxn, atI_nat (j := 0) rfl, _, rfl, xn, _, _, _, rfl, rfl, .of hxn, atI_nat (j := 1) rfl, h, le, ou, s, l, kd, rfl, hA, hop, k⟩⟩
  | fits r hr =>
   obtain ⟨q, hx, hq⟩ := row1 hxr
   iterate 7 refine ⟨_, rfl, rfl, _, rfl, iteF ?_⟩
   exact ⟨_, rfl, rfl, _, rfl, iteT ⟨_, rfl, _, rfl, xr, _, _, _, rfl, rfl, .of hx, atI_nat (j := 0) rfl, h, le, ou, q, s, r, rfl, hA, hop, hr.1, hq, k⟩⟩
  | first =>
   iterate 8 refine ⟨_, rfl, rfl, _, rfl, iteF ?_⟩
   exact ⟨_, rfl, rfl, _, rfl, iteT ⟨_, rfl, h, le, ou, s, rfl, hA, hop, k⟩⟩
  | worth l =>
   iterate 9 refine ⟨_, rfl, rfl, _, rfl, iteF ?_⟩
   exact ⟨_, rfl, rfl, _, rfl, iteT ⟨_, rfl, _, rfl, xn, _, _, _, rfl, rfl, .of hxn, atI_nat (j := 0) rfl, h, le, ou, s, l, rfl, hA, hop, k⟩⟩
  | state =>
   iterate 10 refine ⟨_, rfl, rfl, _, rfl, iteF ?_⟩
   exact ⟨_, rfl, h, le, ou, s, rfl, hA, hop, k⟩
def sp_answer_call (C : Addr) : Sp := fun vs H Q _ => ∃ (h le ou xn xr : Addr) (s : Vbrgad.State) (pl : Int) (nums : List Int) (rows : List (List Int)) (c : Vbrgad.Call), vs = [.ref h, .int pl, .ref xn, .ref xr] ∧ HouseAt C H h le ou s ∧ (pl ≠ 0 → s.opened = true) ∧
 H xn = some (.lst (nums.map V.int)) ∧ RowsAt H xr rows ∧ CallAs pl nums rows c ∧ AnsTo C h le ou H (Vbrgad.step s c) Q
theorem ok_answer_call (T : Txt K mg a) : FnOk P w K mg base CX0 9 a.f_answer_call a.d_answer_call ["house", "place", "numbers", "rows"] (sp_answer_call a.C_House) := by
 refine T.answer_call.F.ok sc_answer_call (fun vs H Q E h => ?_) (fun cdv A outer s H vs Q E hr h => ?_)
 ·obtain ⟨h, le, ou, xn, xr, s, pl, nums, rows, c, rfl, _⟩ := h; rfl
 ·obtain ⟨h, le, ou, xn, xr, s, pl, nums, rows, c, rfl, hA, hop, hxn, hxr, hc, k⟩ := h
  refine ⟨_, (pss_cons (ps_if (pt_cmpR op_eq (pv 1) pe_int (nomark _))
    (pss_one (ps_ret (pe_call (ok_open_house T) (hr.mono (by decide)) rfl T.open_house.m T.open_house.F.kp T.open_house.b .nil pass0 (pa_cons (pv 0) (pa_cons (pe_ix (ixk_list K rfl) (pv 3) pe_int (fun _ _ => rfl)) (pa_cons (pe_ix (ixk_list K rfl) (pv 3) pe_int (fun _ _ => rfl)) (pa_cons (pe_ix (ixk_list K rfl) (pv 3) pe_int (fun _ _ => rfl)) (pa_cons (pe_ix (ixk_list K rfl) (pv 3) pe_int (fun _ _ => rfl)) pa_nil))))))))
    pss_nil)
   (pss_cons (ps_if (pt_cmpR op_eq (pv 1) pe_int (nomark _))
    (pss_one (ps_ret (pe_call (ok_tell_outcomes T) (hr.mono (by decide)) rfl T.tell_outcomes.m T.tell_outcomes.F.kp T.tell_outcomes.b .nil pass0 (pa_cons (pv 0) (pa_cons (pe_ix (ixk_list K rfl) (pv 2) pe_int (fun _ _ => rfl)) (pa_cons (pe_ix (ixk_list K rfl) (pv 3) pe_int (fun _ _ => rfl)) pa_nil))))))
    pss_nil)
   (pss_cons (ps_if (pt_cmpR op_eq (pv 1) pe_int (nomark _))
    (pss_one (ps_ret (pe_call (ok_use_look T) (hr.mono (by decide)) rfl T.use_look.m T.use_look.F.kp T.use_look.b .nil pass0 (pa_cons (pv 0) (pa_cons (pe_ix (ixk_list K rfl) (pv 2) pe_int (fun _ _ => rfl)) (pa_cons (pe_ix (ixk_list K rfl) (pv 2) pe_int (fun _ _ => rfl)) pa_nil))))))
    pss_nil)
   (pss_cons (ps_if (pt_cmpR op_eq (pv 1) pe_int (nomark _))
    (pss_one (ps_ret (pe_call (ok_offer_look T) (hr.mono (by decide)) rfl T.offer_look.m T.offer_look.F.kp T.offer_look.b .nil pass0 (pa_cons (pv 0) (pa_cons (pe_ix (ixk_list K rfl) (pv 2) pe_int (fun _ _ => rfl)) (pa_cons (pe_ix (ixk_list K rfl) (pv 2) pe_int (fun _ _ => rfl)) pa_nil))))))
    pss_nil)
   (pss_cons (ps_if (pt_cmpR op_eq (pv 1) pe_int (nomark _))
    (pss_one (ps_ret (pe_call (ok_tell_kind T) (hr.mono (by decide)) rfl T.tell_kind.m T.tell_kind.F.kp T.tell_kind.b .nil pass0 (pa_cons (pv 0) (pa_cons (pe_ix (ixk_list K rfl) (pv 2) pe_int (fun _ _ => rfl)) pa_nil)))))
    pss_nil)
   (pss_cons (ps_if (pt_cmpR op_eq (pv 1) pe_int (nomark _))
    (pss_one (ps_ret (pe_call (ok_ask_kind T) (hr.mono (by decide)) rfl T.ask_kind.m T.ask_kind.F.kp T.ask_kind.b .nil pass0 (pa_cons (pv 0) (pa_cons (pe_ix (ixk_list K rfl) (pv 2) pe_int (fun _ _ => rfl)) (pa_cons (pe_ix (ixk_list K rfl) (pv 2) pe_int (fun _ _ => rfl)) pa_nil))))))
    pss_nil)
   (pss_one (ps_ret (pe_call (ok_answer_question T) (hr.mono (by decide)) rfl T.answer_question.m T.answer_question.F.kp T.answer_question.b .nil pass0 (pa_cons (pv 0) (pa_cons (pv 1) (pa_cons (pv 2) (pa_cons (pv 3) pa_nil))))))))))))), ?_⟩
  have hc0 := hc
  cases hc with
  | opens t l kk p ht hl hk hp =>
   obtain ⟨q1, q2, q3, q4, hx, e1, e2, e3, e4⟩ := row4 hxr
   exact ⟨_, rfl, rfl, _, rfl, iteT ⟨_, rfl, _, rfl, xr, _, _, _, rfl, rfl, .of hx, atI_nat (j := 0) rfl, _, rfl, xr, _, _, _, rfl, rfl, .of hx, atI_nat (j := 1) rfl, _, rfl, xr, _, _, _, rfl, rfl, .of hx, atI_nat (j := 2) rfl, _, rfl, xr, _, _, _, rfl, rfl, .of hx, atI_nat (j := 3) rfl, h, le, ou, q1, q2, q3, q4, s, t, l, kk, p, rfl, hA, e1, e2, e3, e4, ht.1, hl.1, hk.1, hp.2, k⟩⟩
  | outcomes z r hz hr =>
   obtain ⟨q, hx, hq⟩ := row1 hxr
   refine ⟨_, rfl, rfl, _, rfl, iteF ?_⟩
   exact ⟨_, rfl, rfl, _, rfl, iteT ⟨_, rfl, _, rfl, xn, _, _, _, rfl, rfl, .of hxn, atI_nat (j := 0) rfl, _, rfl, xr, _, _, _, rfl, rfl, .of hx, atI_nat (j := 0) rfl, h, le, ou, q, s, z, r, rfl, hA, hop (by decide), hz, hq, hr.2, k⟩⟩
  | use l z hz =>
   iterate 2 refine ⟨_, rfl, rfl, _, rfl, iteF ?_⟩
   exact ⟨_, rfl, rfl, _, rfl, iteT ⟨_, rfl, _, rfl, xn, _, _, _, rfl, rfl, .of hxn, atI_nat (j := 0) rfl, _, rfl, xn, _, _, _, rfl, rfl, .of hxn, atI_nat (j := 1) rfl, h, le, ou, s, l, z, rfl, hA, hop (by decide), hz, k⟩⟩
  | offer l d =>
   iterate 3 refine ⟨_, rfl, rfl, _, rfl, iteF ?_⟩
   exact ⟨_, rfl, rfl, _, rfl, iteT ⟨_, rfl, _, rfl, xn, _, _, _, rfl, rfl, .of hxn, atI_nat (j := 0) rfl, _, rfl, xn, _, _, _, rfl, rfl, .of hxn, atI_nat (j := 1) rfl, h, le, ou, s, l, d, rfl, hA, hop (by decide), k⟩⟩
  | tell l =>
   iterate 4 refine ⟨_, rfl, rfl, _, rfl, iteF ?_⟩
   exact ⟨_, rfl, rfl, _, rfl, iteT ⟨_, rfl, _, rfl, xn, _, _, _, rfl, rfl, .of hxn, atI_nat (j := 0) rfl, h, le, ou, s, l, rfl, hA, hop (by decide), k⟩⟩
  | ask l kd =>
   iterate 5 refine ⟨_, rfl, rfl, _, rfl, iteF ?_⟩
   exact ⟨_, rfl, rfl, _, rfl, iteT ⟨_, rfl, _, rfl, xn, _, _, _, rfl, rfl, .of hxn, atI_nat (j := 0) rfl, _, rfl, xn, _, _, _, rfl, rfl, .of hxn, atI_nat (j := 1) rfl, h, le, ou, s, l, kd, rfl, hA, hop (by decide), k⟩⟩
  | possible l =>
   iterate 6 refine ⟨_, rfl, rfl, _, rfl, iteF ?_⟩
   exact ⟨_, rfl, _, rfl, _, rfl, _, rfl, h, le, ou, xn, xr, s, _, _, _, _, rfl, hA, hop (by decide), hxn, hxr, hc0, by decide, k⟩
  | certain =>
   iterate 6 refine ⟨_, rfl, rfl, _, rfl, iteF ?_⟩
   exact ⟨_, rfl, _, rfl, _, rfl, _, rfl, h, le, ou, xn, xr, s, _, _, _, _, rfl, hA, hop (by decide), hxn, hxr, hc0, by decide, k⟩
  | count =>
   iterate 6 refine ⟨_, rfl, rfl, _, rfl, iteF ?_⟩
   exact ⟨_, rfl, _, rfl, _, rfl, _, rfl, h, le, ou, xn, xr, s, _, _, _, _, rfl, hA, hop (by decide), hxn, hxr, hc0, by decide, k⟩
  | allowed l =>
   iterate 6 refine ⟨_, rfl, rfl, _, rfl, iteF ?_⟩
   exact ⟨_, rfl, _, rfl, _, rfl, _, rfl, h, le, ou, xn, xr, s, _, _, _, _, rfl, hA, hop (by decide), hxn, hxr, hc0, by decide, k⟩
  | why l kd =>
   iterate 6 refine ⟨_, rfl, rfl, _, rfl, iteF ?_⟩
   exact ⟨_, rfl, _, rfl, _, rfl, _, rfl, h, le, ou, xn, xr, s, _, _, _, _, rfl, hA, hop (by decide), hxn, hxr, hc0, by decide, k⟩
  | try_ z hz =>
   iterate 6 refine ⟨_, rfl, rfl, _, rfl, iteF ?_⟩
   exact ⟨_, rfl, _, rfl, _, rfl, _, rfl, h, le, ou, xn, xr, s, _, _, _, _, rfl, hA, hop (by decide), hxn, hxr, hc0, by decide, k⟩
  | odds l kd =>
   iterate 6 refine ⟨_, rfl, rfl, _, rfl, iteF ?_⟩
   exact ⟨_, rfl, _, rfl, _, rfl, _, rfl, h, le, ou, xn, xr, s, _, _, _, _, rfl, hA, hop (by decide), hxn, hxr, hc0, by decide, k⟩
  | fits r hr =>
   iterate 6 refine ⟨_, rfl, rfl, _, rfl, iteF ?_⟩
   exact ⟨_, rfl, _, rfl, _, rfl, _, rfl, h, le, ou, xn, xr, s, _, _, _, _, rfl, hA, hop (by decide), hxn, hxr, hc0, by decide, k⟩
  | first =>
   iterate 6 refine ⟨_, rfl, rfl, _, rfl, iteF ?_⟩
   exact ⟨_, rfl, _, rfl, _, rfl, _, rfl, h, le, ou, xn, xr, s, _, _, _, _, rfl, hA, hop (by decide), hxn, hxr, hc0, by decide, k⟩
  | worth l =>
   iterate 6 refine ⟨_, rfl, rfl, _, rfl, iteF ?_⟩
   exact ⟨_, rfl, _, rfl, _, rfl, _, rfl, h, le, ou, xn, xr, s, _, _, _, _, rfl, hA, hop (by decide), hxn, hxr, hc0, by decide, k⟩
  | state =>
   iterate 6 refine ⟨_, rfl, rfl, _, rfl, iteF ?_⟩
   exact ⟨_, rfl, _, rfl, _, rfl, _, rfl, h, le, ou, xn, xr, s, _, _, _, _, rfl, hA, hop (by decide), hxn, hxr, hc0, by decide, k⟩
end UK
set_option Elab.async false
set_option linter.all false
set_option maxRecDepth 100000
set_option maxHeartbeats 4000000
namespace UK
open PySem PySem.Spec PyProof.Rows L2
def rowRanges (p : Nat) : List (Int × Int) := if p = 0 then [(0, 9), (0, 5), (0, 5), (1, 1000000)] else if p = 1 then [(0, 9)] else if p = 13 then [(0, 9)] else []
def numR (p : Nat) : List (Int × Int) := numberRanges.getD p []
theorem shape_at {p : Int} {n k : Nat} (h : PyVbrgad.shape p = some (n, k)) : ∃ q : Nat, p = (q : Int) ∧ q ≤ 16 ∧ (numR q).length = n ∧ (rowRanges q).length = k := by
 unfold PyVbrgad.shape at h
 by_cases e0 : p = 0
 ·subst e0
  cases h
  exact ⟨0, rfl, by decide, rfl, rfl⟩
 rw [if_neg e0] at h
 by_cases e1 : p = 1
 ·subst e1
  cases h
  exact ⟨1, rfl, by decide, rfl, rfl⟩
 rw [if_neg e1] at h
 by_cases e2 : p = 2
 ·subst e2
  cases h
  exact ⟨2, rfl, by decide, rfl, rfl⟩
 rw [if_neg e2] at h
 by_cases e3 : p = 3
 ·subst e3
  cases h
  exact ⟨3, rfl, by decide, rfl, rfl⟩
 rw [if_neg e3] at h
 by_cases e4 : p = 4
 ·subst e4
  cases h
  exact ⟨4, rfl, by decide, rfl, rfl⟩
 rw [if_neg e4] at h
 by_cases e5 : p = 5
 ·subst e5
  cases h
  exact ⟨5, rfl, by decide, rfl, rfl⟩
 rw [if_neg e5] at h
 by_cases e6 : p = 6
 ·subst e6
  cases h
  exact ⟨6, rfl, by decide, rfl, rfl⟩
 rw [if_neg e6] at h
 by_cases e7 : p = 7
 ·subst e7
  cases h
  exact ⟨7, rfl, by decide, rfl, rfl⟩
 rw [if_neg e7] at h
 by_cases e8 : p = 8
 ·subst e8
  cases h
  exact ⟨8, rfl, by decide, rfl, rfl⟩
 rw [if_neg e8] at h
 by_cases e9 : p = 9
 ·subst e9
  cases h
  exact ⟨9, rfl, by decide, rfl, rfl⟩
 rw [if_neg e9] at h
 by_cases e10 : p = 10
 ·subst e10
  cases h
  exact ⟨10, rfl, by decide, rfl, rfl⟩
 rw [if_neg e10] at h
 by_cases e11 : p = 11
 ·subst e11
  cases h
  exact ⟨11, rfl, by decide, rfl, rfl⟩
 rw [if_neg e11] at h
 by_cases e12 : p = 12
 ·subst e12
  cases h
  exact ⟨12, rfl, by decide, rfl, rfl⟩
 rw [if_neg e12] at h
 by_cases e13 : p = 13
 ·subst e13
  cases h
  exact ⟨13, rfl, by decide, rfl, rfl⟩
 rw [if_neg e13] at h
 by_cases e14 : p = 14
 ·subst e14
  cases h
  exact ⟨14, rfl, by decide, rfl, rfl⟩
 rw [if_neg e14] at h
 by_cases e15 : p = 15
 ·subst e15
  cases h
  exact ⟨15, rfl, by decide, rfl, rfl⟩
 rw [if_neg e15] at h
 by_cases e16 : p = 16
 ·subst e16
  cases h
  exact ⟨16, rfl, by decide, rfl, rfl⟩
 rw [if_neg e16] at h
 cases h
theorem len0 {α : Type} {l : List α} (h : l.length = 0) : l = [] := List.eq_nil_of_length_eq_zero h
theorem len1 {α : Type} {l : List α} (h : l.length = 1) : ∃ x, l = [x] := by
 match l, h with
 | [x], _ => exact ⟨x, rfl⟩
theorem len2 {α : Type} {l : List α} (h : l.length = 2) : ∃ x y, l = [x, y] := by
 match l, h with
 | [x, y], _ => exact ⟨x, y, rfl⟩
theorem len4 {α : Type} {l : List α} (h : l.length = 4) : ∃ x y z u, l = [x, y, z, u] := by
 match l, h with
 | [x, y, z, u], _ => exact ⟨x, y, z, u, rfl⟩
theorem within_nat {hi : Nat} {x : Int} (h : within (0, (hi : Int)) x = true) : ∃ n : Nat, x = (n : Int) ∧ n ≤ hi := by
 unfold within at h
 rw [Bool.and_eq_true, decide_eq_true_iff, decide_eq_true_iff] at h
 exact ⟨x.toNat, by have := h.1; omega, by have := h.1; have := h.2; omega⟩
theorem castI_of : ∀ {l : List Int}, (∀ x ∈ l, 0 ≤ x) → l = castI (l.map Int.toNat)
 | [], _ => rfl
 | x :: l, h => by
  have h1 := h x (List.mem_cons_self ..)
  have h2 := castI_of (l := l) fun y hy => h y (List.mem_cons_of_mem _ hy)
  show x :: l = ((x.toNat : Nat) : Int) :: castI (l.map Int.toNat)
  rw [← h2]
  congr 1
  omega
theorem row_nat {hi : Nat} {l : List Int} (h : rowWithin (0, (hi : Int)) l = true) : ∃ r : List Nat, l = castI r ∧ RowIn hi r := by
 unfold rowWithin at h
 rw [Bool.and_eq_true, decide_eq_true_iff, List.all_eq_true] at h
 have hx : ∀ x ∈ l, 0 ≤ x ∧ x ≤ (hi : Int) := fun x hx => by
  have := h.2 x hx
  unfold within at this
  rw [Bool.and_eq_true, decide_eq_true_iff, decide_eq_true_iff] at this
  exact this
 refine ⟨l.map Int.toNat, castI_of fun x hx' => (hx x hx').1, by rw [List.length_map]; exact h.1, fun y hy => ?_⟩
 obtain ⟨x, hx', rfl⟩ := List.mem_map.mp hy
 have := hx x hx'
 omega
theorem row_price {l : List Int} (h : rowWithin (1, 1000000) l = true) : l.length ≤ 10 ∧ ∀ x ∈ l, 1 ≤ x ∧ x ≤ 1000000 := by
 unfold rowWithin at h
 rw [Bool.and_eq_true, decide_eq_true_iff, List.all_eq_true] at h
 refine ⟨h.1, fun x hx => ?_⟩
 have := h.2 x hx
 unfold within at this
 rw [Bool.and_eq_true, decide_eq_true_iff, decide_eq_true_iff] at this
 exact this
theorem castI_back (l : List Nat) : (castI l).map Int.toNat = l := cast_toNat l
def inRange (p : Nat) (nums : List Int) (rows : List (List Int)) : Bool := ((nums.zip (numR p)).all fun q => within q.2 q.1) && (rows.zip (rowRanges p)).all fun q => rowWithin q.2 q.1
def DecIn (p : Nat) (nums : List Int) (rows : List (List Int)) : Prop :=
 (inRange p nums rows = true → ∃ c, Vbrgad.decode ((((p : Nat) : Int) :: nums) :: rows) = some c ∧ CallAs ((p : Nat) : Int) nums rows c) ∧ (inRange p nums rows = false → Vbrgad.decode ((((p : Nat) : Int) :: nums) :: rows) = none)
theorem dec_0 (nums : List Int) (rows : List (List Int)) (hn : nums.length = 0) (hr : rows.length = 4) : DecIn 0 nums rows := by
 obtain rfl := len0 hn
 obtain ⟨y0, y1, y2, y3, rfl⟩ := len4 hr
 have e : inRange 0 [] [y0, y1, y2, y3] = (rowWithin (0, 9) y0 && (rowWithin (0, 5) y1 && (rowWithin (0, 5) y2 && (rowWithin (1, 1000000) y3)))) := by
  show (true && (rowWithin (0, 9) y0 && (rowWithin (0, 5) y1 && (rowWithin (0, 5) y2 && (rowWithin (1, 1000000) y3 && true))))) = _
  simp only [Bool.and_true, Bool.true_and]
 have d : Vbrgad.decode [[((0 : Nat) : Int)], y0, y1, y2, y3] = Vbrgad.guard (rowWithin (0, 9) y0 && (rowWithin (0, 5) y1 && (rowWithin (0, 5) y2 && (rowWithin (1, 1000000) y3)))) (.opens (y0.map Int.toNat) (y1.map Int.toNat) (y2.map Int.toNat) y3) := rfl
 unfold DecIn
 rw [e, d]
 refine ⟨fun h => ?_, fun h => by rw [h]; rfl⟩
 rw [h]
 simp only [Bool.and_eq_true] at h
 obtain ⟨h0, h1, h2, h3⟩ := h
 obtain ⟨r0, rfl, c0⟩ := row_nat (hi := 9) h0
 obtain ⟨r1, rfl, c1⟩ := row_nat (hi := 5) h1
 obtain ⟨r2, rfl, c2⟩ := row_nat (hi := 5) h2
 have c3 := row_price h3
 simp only [castI_back]
 exact ⟨_, rfl, .opens r0 r1 r2 y3 c0 c1 c2 c3⟩
theorem dec_1 (nums : List Int) (rows : List (List Int)) (hn : nums.length = 1) (hr : rows.length = 1) : DecIn 1 nums rows := by
 obtain ⟨x0, rfl⟩ := len1 hn
 obtain ⟨y0, rfl⟩ := len1 hr
 have e : inRange 1 [x0] [y0] = (within (0, 7) x0 && (rowWithin (0, 9) y0)) := by
  show ((within (0, 7) x0 && true) && (rowWithin (0, 9) y0 && true)) = _
  simp only [Bool.and_true, Bool.true_and]
 have d : Vbrgad.decode [[((1 : Nat) : Int), x0], y0] = Vbrgad.guard (within (0, 7) x0 && (rowWithin (0, 9) y0)) (.outcomes x0.toNat (y0.map Int.toNat)) := rfl
 unfold DecIn
 rw [e, d]
 refine ⟨fun h => ?_, fun h => by rw [h]; rfl⟩
 rw [h]
 simp only [Bool.and_eq_true] at h
 obtain ⟨h0, h1⟩ := h
 obtain ⟨n0, rfl, b0⟩ := within_nat (hi := 7) h0
 obtain ⟨r0, rfl, c0⟩ := row_nat (hi := 9) h1
 simp only [castI_back]
 exact ⟨_, rfl, .outcomes n0 r0 b0 c0⟩
theorem dec_2 (nums : List Int) (rows : List (List Int)) (hn : nums.length = 2) (hr : rows.length = 0) : DecIn 2 nums rows := by
 obtain ⟨x0, x1, rfl⟩ := len2 hn
 obtain rfl := len0 hr
 have e : inRange 2 [x0, x1] [] = (within (0, 9) x0 && (within (0, 7) x1)) := by
  show ((within (0, 9) x0 && (within (0, 7) x1 && true)) && true) = _
  simp only [Bool.and_true, Bool.true_and]
 have d : Vbrgad.decode [[((2 : Nat) : Int), x0, x1]] = Vbrgad.guard (within (0, 9) x0 && (within (0, 7) x1)) (.use x0.toNat x1.toNat) := rfl
 unfold DecIn
 rw [e, d]
 refine ⟨fun h => ?_, fun h => by rw [h]; rfl⟩
 rw [h]
 simp only [Bool.and_eq_true] at h
 obtain ⟨h0, h1⟩ := h
 obtain ⟨n0, rfl, b0⟩ := within_nat (hi := 9) h0
 obtain ⟨n1, rfl, b1⟩ := within_nat (hi := 7) h1
 exact ⟨_, rfl, .use n0 n1 b1⟩
theorem dec_3 (nums : List Int) (rows : List (List Int)) (hn : nums.length = 2) (hr : rows.length = 0) : DecIn 3 nums rows := by
 obtain ⟨x0, x1, rfl⟩ := len2 hn
 obtain rfl := len0 hr
 have e : inRange 3 [x0, x1] [] = (within (0, 9) x0 && (within (0, 1) x1)) := by
  show ((within (0, 9) x0 && (within (0, 1) x1 && true)) && true) = _
  simp only [Bool.and_true, Bool.true_and]
 have d : Vbrgad.decode [[((3 : Nat) : Int), x0, x1]] = Vbrgad.guard (within (0, 9) x0 && (within (0, 1) x1)) (.offer x0.toNat (x1 == 1)) := rfl
 unfold DecIn
 rw [e, d]
 refine ⟨fun h => ?_, fun h => by rw [h]; rfl⟩
 rw [h]
 simp only [Bool.and_eq_true] at h
 obtain ⟨h0, h1⟩ := h
 obtain ⟨n0, rfl, b0⟩ := within_nat (hi := 9) h0
 obtain ⟨n1, rfl, b1⟩ := within_nat (hi := 1) h1
 refine ⟨_, rfl, ?_⟩
 have hd : n1 = 0 ∨ n1 = 1 := by omega
 rcases hd with rfl | rfl
 ·exact .offer n0 false
 ·exact .offer n0 true
theorem dec_4 (nums : List Int) (rows : List (List Int)) (hn : nums.length = 1) (hr : rows.length = 0) : DecIn 4 nums rows := by
 obtain ⟨x0, rfl⟩ := len1 hn
 obtain rfl := len0 hr
 have e : inRange 4 [x0] [] = (within (0, 9) x0) := by
  show ((within (0, 9) x0 && true) && true) = _
  simp only [Bool.and_true, Bool.true_and]
 have d : Vbrgad.decode [[((4 : Nat) : Int), x0]] = Vbrgad.guard (within (0, 9) x0) (.tell x0.toNat) := rfl
 unfold DecIn
 rw [e, d]
 refine ⟨fun h => ?_, fun h => by rw [h]; rfl⟩
 rw [h]
 obtain ⟨n0, rfl, b0⟩ := within_nat (hi := 9) h
 exact ⟨_, rfl, .tell n0⟩
theorem dec_5 (nums : List Int) (rows : List (List Int)) (hn : nums.length = 2) (hr : rows.length = 0) : DecIn 5 nums rows := by
 obtain ⟨x0, x1, rfl⟩ := len2 hn
 obtain rfl := len0 hr
 have e : inRange 5 [x0, x1] [] = (within (0, 9) x0 && (within (0, 9) x1)) := by
  show ((within (0, 9) x0 && (within (0, 9) x1 && true)) && true) = _
  simp only [Bool.and_true, Bool.true_and]
 have d : Vbrgad.decode [[((5 : Nat) : Int), x0, x1]] = Vbrgad.guard (within (0, 9) x0 && (within (0, 9) x1)) (.ask x0.toNat x1.toNat) := rfl
 unfold DecIn
 rw [e, d]
 refine ⟨fun h => ?_, fun h => by rw [h]; rfl⟩
 rw [h]
 simp only [Bool.and_eq_true] at h
 obtain ⟨h0, h1⟩ := h
 obtain ⟨n0, rfl, b0⟩ := within_nat (hi := 9) h0
 obtain ⟨n1, rfl, b1⟩ := within_nat (hi := 9) h1
 exact ⟨_, rfl, .ask n0 n1⟩
theorem dec_6 (nums : List Int) (rows : List (List Int)) (hn : nums.length = 1) (hr : rows.length = 0) : DecIn 6 nums rows := by
 obtain ⟨x0, rfl⟩ := len1 hn
 obtain rfl := len0 hr
 have e : inRange 6 [x0] [] = (within (0, 9) x0) := by
  show ((within (0, 9) x0 && true) && true) = _
  simp only [Bool.and_true, Bool.true_and]
 have d : Vbrgad.decode [[((6 : Nat) : Int), x0]] = Vbrgad.guard (within (0, 9) x0) (.possible x0.toNat) := rfl
 unfold DecIn
 rw [e, d]
 refine ⟨fun h => ?_, fun h => by rw [h]; rfl⟩
 rw [h]
 obtain ⟨n0, rfl, b0⟩ := within_nat (hi := 9) h
 exact ⟨_, rfl, .possible n0⟩
theorem dec_7 (nums : List Int) (rows : List (List Int)) (hn : nums.length = 0) (hr : rows.length = 0) : DecIn 7 nums rows := by
 obtain rfl := len0 hn
 obtain rfl := len0 hr
 exact ⟨fun _ => ⟨.certain, rfl, .certain⟩, fun h => nomatch h⟩
theorem dec_8 (nums : List Int) (rows : List (List Int)) (hn : nums.length = 0) (hr : rows.length = 0) : DecIn 8 nums rows := by
 obtain rfl := len0 hn
 obtain rfl := len0 hr
 exact ⟨fun _ => ⟨.count, rfl, .count⟩, fun h => nomatch h⟩
theorem dec_9 (nums : List Int) (rows : List (List Int)) (hn : nums.length = 1) (hr : rows.length = 0) : DecIn 9 nums rows := by
 obtain ⟨x0, rfl⟩ := len1 hn
 obtain rfl := len0 hr
 have e : inRange 9 [x0] [] = (within (0, 9) x0) := by
  show ((within (0, 9) x0 && true) && true) = _
  simp only [Bool.and_true, Bool.true_and]
 have d : Vbrgad.decode [[((9 : Nat) : Int), x0]] = Vbrgad.guard (within (0, 9) x0) (.allowed x0.toNat) := rfl
 unfold DecIn
 rw [e, d]
 refine ⟨fun h => ?_, fun h => by rw [h]; rfl⟩
 rw [h]
 obtain ⟨n0, rfl, b0⟩ := within_nat (hi := 9) h
 exact ⟨_, rfl, .allowed n0⟩
theorem dec_10 (nums : List Int) (rows : List (List Int)) (hn : nums.length = 2) (hr : rows.length = 0) : DecIn 10 nums rows := by
 obtain ⟨x0, x1, rfl⟩ := len2 hn
 obtain rfl := len0 hr
 have e : inRange 10 [x0, x1] [] = (within (0, 9) x0 && (within (0, 9) x1)) := by
  show ((within (0, 9) x0 && (within (0, 9) x1 && true)) && true) = _
  simp only [Bool.and_true, Bool.true_and]
 have d : Vbrgad.decode [[((10 : Nat) : Int), x0, x1]] = Vbrgad.guard (within (0, 9) x0 && (within (0, 9) x1)) (.why x0.toNat x1.toNat) := rfl
 unfold DecIn
 rw [e, d]
 refine ⟨fun h => ?_, fun h => by rw [h]; rfl⟩
 rw [h]
 simp only [Bool.and_eq_true] at h
 obtain ⟨h0, h1⟩ := h
 obtain ⟨n0, rfl, b0⟩ := within_nat (hi := 9) h0
 obtain ⟨n1, rfl, b1⟩ := within_nat (hi := 9) h1
 exact ⟨_, rfl, .why n0 n1⟩
theorem dec_11 (nums : List Int) (rows : List (List Int)) (hn : nums.length = 1) (hr : rows.length = 0) : DecIn 11 nums rows := by
 obtain ⟨x0, rfl⟩ := len1 hn
 obtain rfl := len0 hr
 have e : inRange 11 [x0] [] = (within (0, 7) x0) := by
  show ((within (0, 7) x0 && true) && true) = _
  simp only [Bool.and_true, Bool.true_and]
 have d : Vbrgad.decode [[((11 : Nat) : Int), x0]] = Vbrgad.guard (within (0, 7) x0) (.try_ x0.toNat) := rfl
 unfold DecIn
 rw [e, d]
 refine ⟨fun h => ?_, fun h => by rw [h]; rfl⟩
 rw [h]
 obtain ⟨n0, rfl, b0⟩ := within_nat (hi := 7) h
 exact ⟨_, rfl, .try_ n0 b0⟩
theorem dec_12 (nums : List Int) (rows : List (List Int)) (hn : nums.length = 2) (hr : rows.length = 0) : DecIn 12 nums rows := by
 obtain ⟨x0, x1, rfl⟩ := len2 hn
 obtain rfl := len0 hr
 have e : inRange 12 [x0, x1] [] = (within (0, 9) x0 && (within (0, 9) x1)) := by
  show ((within (0, 9) x0 && (within (0, 9) x1 && true)) && true) = _
  simp only [Bool.and_true, Bool.true_and]
 have d : Vbrgad.decode [[((12 : Nat) : Int), x0, x1]] = Vbrgad.guard (within (0, 9) x0 && (within (0, 9) x1)) (.odds x0.toNat x1.toNat) := rfl
 unfold DecIn
 rw [e, d]
 refine ⟨fun h => ?_, fun h => by rw [h]; rfl⟩
 rw [h]
 simp only [Bool.and_eq_true] at h
 obtain ⟨h0, h1⟩ := h
 obtain ⟨n0, rfl, b0⟩ := within_nat (hi := 9) h0
 obtain ⟨n1, rfl, b1⟩ := within_nat (hi := 9) h1
 exact ⟨_, rfl, .odds n0 n1⟩
theorem dec_13 (nums : List Int) (rows : List (List Int)) (hn : nums.length = 0) (hr : rows.length = 1) : DecIn 13 nums rows := by
 obtain rfl := len0 hn
 obtain ⟨y0, rfl⟩ := len1 hr
 have e : inRange 13 [] [y0] = (rowWithin (0, 9) y0) := by
  show (true && (rowWithin (0, 9) y0 && true)) = _
  simp only [Bool.and_true, Bool.true_and]
 have d : Vbrgad.decode [[((13 : Nat) : Int)], y0] = Vbrgad.guard (rowWithin (0, 9) y0) (.fits (y0.map Int.toNat)) := rfl
 unfold DecIn
 rw [e, d]
 refine ⟨fun h => ?_, fun h => by rw [h]; rfl⟩
 rw [h]
 obtain ⟨r0, rfl, c0⟩ := row_nat (hi := 9) h
 simp only [castI_back]
 exact ⟨_, rfl, .fits r0 c0⟩
theorem dec_14 (nums : List Int) (rows : List (List Int)) (hn : nums.length = 0) (hr : rows.length = 0) : DecIn 14 nums rows := by
 obtain rfl := len0 hn
 obtain rfl := len0 hr
 exact ⟨fun _ => ⟨.first, rfl, .first⟩, fun h => nomatch h⟩
theorem dec_15 (nums : List Int) (rows : List (List Int)) (hn : nums.length = 1) (hr : rows.length = 0) : DecIn 15 nums rows := by
 obtain ⟨x0, rfl⟩ := len1 hn
 obtain rfl := len0 hr
 have e : inRange 15 [x0] [] = (within (0, 9) x0) := by
  show ((within (0, 9) x0 && true) && true) = _
  simp only [Bool.and_true, Bool.true_and]
 have d : Vbrgad.decode [[((15 : Nat) : Int), x0]] = Vbrgad.guard (within (0, 9) x0) (.worth x0.toNat) := rfl
 unfold DecIn
 rw [e, d]
 refine ⟨fun h => ?_, fun h => by rw [h]; rfl⟩
 rw [h]
 obtain ⟨n0, rfl, b0⟩ := within_nat (hi := 9) h
 exact ⟨_, rfl, .worth n0⟩
theorem dec_16 (nums : List Int) (rows : List (List Int)) (hn : nums.length = 0) (hr : rows.length = 0) : DecIn 16 nums rows := by
 obtain rfl := len0 hn
 obtain rfl := len0 hr
 exact ⟨fun _ => ⟨.state, rfl, .state⟩, fun h => nomatch h⟩
theorem dec_all : ∀ (p : Nat), p ≤ 16 → ∀ (nums : List Int) (rows : List (List Int)), nums.length = (numR p).length → rows.length = (rowRanges p).length → DecIn p nums rows
 | 0, _ => dec_0
 | 1, _ => dec_1
 | 2, _ => dec_2
 | 3, _ => dec_3
 | 4, _ => dec_4
 | 5, _ => dec_5
 | 6, _ => dec_6
 | 7, _ => dec_7
 | 8, _ => dec_8
 | 9, _ => dec_9
 | 10, _ => dec_10
 | 11, _ => dec_11
 | 12, _ => dec_12
 | 13, _ => dec_13
 | 14, _ => dec_14
 | 15, _ => dec_15
 | 16, _ => dec_16
 | n + 17, h => by omega
theorem call_at {l : List Int} {c : List (List Int)} {rest : List Int} (h : PyFlat.call PyVbrgad.shape l = some (c, rest)) : ∃ (q : Nat) (r : List Int) (xs : List (List Int)), l = (q : Int) :: r ∧ q ≤ 16 ∧ (numR q).length ≤ r.length ∧
  PyFlat.rows (rowRanges q).length (r.drop (numR q).length) = some (xs, rest) ∧ c = ((q : Int) :: r.take (numR q).length) :: xs := by
 cases l with
 | nil => cases h
 | cons p r =>
  unfold PyFlat.call at h
  dsimp only at h
  cases e : PyVbrgad.shape p with
  | none => rw [e] at h; cases h
  | some nk =>
   obtain ⟨n, k⟩ := nk
   obtain ⟨q, rfl, hq, rfl, rfl⟩ := shape_at e
   rw [e] at h
   dsimp only at h
   by_cases hl : r.length < (numR q).length
   ·rw [if_pos hl] at h; cases h
   ·rw [if_neg hl] at h
    cases e2 : PyFlat.rows (rowRanges q).length (r.drop (numR q).length) with
    | none => rw [e2] at h; cases h
    | some xt =>
     obtain ⟨xs, t⟩ := xt
     rw [e2] at h
     cases h
     exact ⟨q, r, xs, rfl, hq, by omega, e2, rfl⟩
theorem whole_id (c : List (List Int)) : PyVbrgad.whole c = c := by
 unfold PyVbrgad.whole
 split <;> rfl
end UK
set_option Elab.async false
set_option linter.all false
set_option maxRecDepth 100000
set_option maxHeartbeats 4000000
namespace UK
open PySem PySem.Spec PyProof.Rows L2
variable {P : Program} {w : World} {K : PySem.W.Frag} {mg : Str → Option Value} {base : Heap} {a : Ads}
theorem line_ne_house {H : Hp} {ln h C C' dx dx' ca : Addr} {pos : Int} {tr ls ks pr ou le : Addr} {n : Nat} (h1 : H ln = some (.ins C dx (lf ca pos))) (h2 : H h = some (.ins C' dx' (hf tr ls ks pr ou le n))) : h ≠ ln := by
 intro e
 rw [e, h1] at h2
 injection h2 with h2
 injection h2 with _ _ h2
 have := congrArg List.length h2
 exact absurd this (by show ¬ (2 = 7); decide)
theorem HouseAt.kp {C C' : Addr} {H H' : Hp} {h le ou ln ca : Addr} {s : Vbrgad.State} {calls : List Int} {pos : Nat} (x : HouseAt C H h le ou s) (hL : LineAt K C' H ln ca calls pos) (k : Kp H H' ln) : HouseAt C H' h le ou s := by
 obtain ⟨dxl, hl⟩ := hL.obj
 obtain ⟨⟨dx, tr, ls, ks, pr, h1, h2, h3, h3', h3''⟩, ⟨kvs, g1, g2, g3⟩, ⟨rs, i1, i2⟩, h6⟩ := x
 have nl : ∀ b xs, H b = some (.lst xs) → H' b = some (.lst xs) := fun b xs e => k _ _ e (ne_of e hl (by intro z; cases z))
 refine ⟨⟨dx, tr, ls, ks, pr, k _ _ h1 (line_ne_house hl h1), nl _ _ h2, nl _ _ h3, nl _ _ h3', nl _ _ h3''⟩, ⟨kvs, k _ _ g1 (ne_of g1 hl (by intro z; cases z)), g2, fun z => ⟨fun row e => ?_, (g3 z).2⟩⟩, ⟨rs, nl _ _ i1, Paired.mapP i2 fun r ks e => nl _ _ e⟩, h6⟩
 obtain ⟨r, e1, e2⟩ := (g3 z).1 row e
 exact ⟨r, e1, nl _ _ e2⟩
theorem RangesAt.kp {H H' : Hp} {b ln C dx : Addr} {fs : List (Str × V)} {rg : List (Int × Int)} (h : RangesAt K H b rg) (hl : H ln = some (.ins C dx fs)) (k : Kp H H' ln) : RangesAt K H' b rg := by
 obtain ⟨rs, h1, h2, h3⟩ := h
 refine ⟨rs, h1, ?_, h3⟩
 rcases h2 with (h2 | ⟨o, h2⟩) | h2
 ·exact .inl (.inl (k _ _ h2 (ne_of h2 hl (by intro z; cases z))))
 ·exact .inl (.inr ⟨o, k _ _ h2 (ne_of h2 hl (by intro z; cases z))⟩)
 ·exact .inr h2
theorem LineAt.hkp {C C' : Addr} {H H' : Hp} {h le ou ln ca : Addr} {s : Vbrgad.State} {calls : List Int} {pos : Nat} (hL : LineAt K C' H ln ca calls pos) (hA : HouseAt C H h le ou s) (k : HKp H H' h le ou) (hne : calls ≠ []) : LineAt K C' H' ln ca calls pos := by
 obtain ⟨⟨dxl, hl⟩, hs⟩ := hL
 obtain ⟨dx, tr, ls, ks, pr, h1, _⟩ := hA.obj
 obtain ⟨kvs, g1, _⟩ := hA.outs
 obtain ⟨rs, i1, _⟩ := hA.left
 refine ⟨⟨dxl, k _ _ hl (fun z => line_ne_house hl h1 z.symm) (ne_of hl i1 (by intro z; cases z)) (ne_of hl g1 (by intro z; cases z))⟩, ?_⟩
 rcases hs with (hs | ⟨o, hs⟩) | hs
 ·refine .inl (.inl (k _ _ hs (ne_of hs h1 (by intro z; cases z)) (fun z => ?_) (ne_of hs g1 (by intro z; cases z))))
  rw [z, i1] at hs
  have e : rs.map V.ref = calls.map V.int := by
   injection hs with hs
   injection hs
  cases calls with
  | nil => exact hne rfl
  | cons x l =>
   cases rs with
   | nil => cases e
   | cons r rs => injection e with e _; cases e
 ·exact .inl (.inr ⟨o, k _ _ hs (ne_of hs h1 (by intro z; cases z)) (ne_of hs i1 (by intro z; cases z)) (ne_of hs g1 (by intro z; cases z))⟩)
 ·exact .inr hs
theorem callAs_isOpens {p : Int} {nums : List Int} {rows : List (List Int)} {c : Vbrgad.Call} (h : CallAs p nums rows c) (hp : p ≠ 0) : Vbrgad.isOpens c = false := by
 cases h <;> first | rfl | exact absurd rfl hp
theorem KTable.at {b : Addr} {l : List (List (Int × Int))} (h : KTable K b l) {i : Nat} (hi : i < l.length) : ∃ (rs : List Addr) (r : Addr), KTup K b (rs.map V.ref) ∧ rs[i]? = some r ∧ KRanges K r (l.getD i []) := by
 obtain ⟨rs, h1, h2⟩ := h
 have hl := Paired.length h2
 have hi' : i < rs.length := by omega
 obtain ⟨p, e, h3⟩ := paired_get h2 (List.getElem?_eq_getElem hi')
 refine ⟨rs, rs[i], h1, List.getElem?_eq_getElem hi', ?_⟩
 rw [List.getD_eq_getElem?_getD, e]; exact h3
def sp_answer_next (K : PySem.W.Frag) (CH CL : Addr) : Sp := fun vs H Q _ => ∃ (h le ou ln ca : Addr) (s : Vbrgad.State) (calls : List Int) (pos : Nat) (c : List (List Int)) (rest : List Int), vs = [.ref h, .ref ln] ∧ HouseAt CH H h le ou s ∧ LineAt K CL H ln ca calls pos ∧
 PyFlat.call PyVbrgad.shape (calls.drop pos) = some (c, rest) ∧ ∀ H' p pos' le' ou', HouseAt CH H' h le' ou' (Vbrgad.stepNumbers s c).1 → (le' = le ∨ H le' = none) → (ou' = ou ∨ H ou' = none) → LineAt K CL H' ln ca calls pos' → calls.drop pos' = rest →
  H' p = some (.lst ((Vbrgad.stepNumbers s c).2.map V.int)) → H p = none → (∀ b o, H b = some o → b ≠ h → b ≠ le → b ≠ ou → b ≠ ln → H' b = some o) → Q (.ref p) H'
theorem ok_answer_next (T : Txt K mg a) : FnOk P w K mg base CX0 10 a.f_answer_next a.d_answer_next ["house", "line"] (sp_answer_next K a.C_House a.C_Line) := by
 refine T.answer_next.F.ok sc_answer_next (fun vs H Q E h => ?_) (fun cdv A outer s H vs Q E hr h => ?_)
 ·obtain ⟨h, le, ou, ln, ca, s, calls, pos, c, rest, rfl, _⟩ := h; rfl
 ·obtain ⟨h, le, ou, ln, ca, s, calls, pos, c, rest, rfl, hA, hL, hcall, k⟩ := h
  obtain ⟨q, r, xs, hdrop, hq, hnr, hrows, rfl⟩ := call_at hcall
  have hx : calls[pos]? = some (q : Int) := by
   have := List.getElem?_drop (xs := calls) (i := pos) (j := 0)
   rw [hdrop] at this; simpa using this.symm
  have hr1 : calls.drop (pos + 1) = r := by
   have := List.drop_drop (l := calls) (i := 1) (j := pos)
   rw [hdrop] at this
   rw [← this]; rfl
  have hpos : pos < calls.length := (List.getElem?_eq_some_iff.mp hx).1
  have hrl : r.length = calls.length - (pos + 1) := by rw [← hr1, List.length_drop]
  have hne : calls ≠ [] := fun z => by rw [z] at hpos; exact absurd hpos (Nat.not_lt_zero _)
  obtain ⟨dxl, hLo⟩ := hL.obj
  obtain ⟨nums, hnums⟩ : ∃ nums, nums = r.take (numR q).length := ⟨_, rfl⟩
  have hnl : nums.length = (numR q).length := by rw [hnums, List.length_take]; omega
  have hxl := rows_length hrows
  have hdec := dec_all q hq nums xs hnl hxl
  rw [← hnums] at k
  refine ⟨_, (pss_cons (ps_set (i := 2) sc_answer_next.nd rfl (.inl rfl) (pe_meth0 (pv 1) T.cl_Line T.Line_take_number.mt (ok_Line_take_number T) (hr.mono (by decide)) T.Line_take_number.b .nil pass0))
   (pss_cons (ps_set (i := 3) sc_answer_next.nd rfl (.inl rfl) (pe_ix (ixk_tup K rfl) (pe_glob (v := .ref a.a_NUMBER_RANGES) rfl T.g_NUMBER_RANGES rfl) (pv 2) (fun _ _ => rfl)))
   (pss_cons (ps_set (i := 4) sc_answer_next.nd rfl (.inl rfl) (dgetMk K rfl rfl T.g_ROW_RANGES (pv 2) (pe_tup pa_nil) ⟨rfl, rfl, rfl, rfl⟩))
   (pss_cons (ps_set (i := 5) sc_answer_next.nd rfl (.inl rfl) (pe_meth (pv 1) T.cl_Line T.Line_take_numbers.mt (ok_Line_take_numbers T) (hr.mono (by decide)) T.Line_take_numbers.b .nil pass0 (pa_cons (pe_callB (lenk K rfl) rfl T.b_len boot_len (pa_cons (pv 3) pa_nil)) pa_nil)))
   (pss_cons (ps_set (i := 6) sc_answer_next.nd rfl (.inl rfl) (pe_meth (pv 1) T.cl_Line T.Line_take_rows.mt (ok_Line_take_rows T) (hr.mono (by decide)) T.Line_take_rows.b .nil pass0 (pa_cons (pe_callB (lenk K rfl) rfl T.b_len boot_len (pa_cons (pv 4) pa_nil)) pa_nil)))
   (pss_cons (ps_if (L2.PW.pt (pw_or (pt_not (pt_val (pe_call (ok_are_numbers_within T) (hr.mono (by decide)) rfl T.are_numbers_within.m T.are_numbers_within.F.kp T.are_numbers_within.b .nil pass0 (pa_cons (pv 5) (pa_cons (pv 3) pa_nil))))) (pw_or1 (pt_not (pt_val (pe_call (ok_are_rows_within T) (hr.mono (by decide)) rfl T.are_rows_within.m T.are_rows_within.F.kp T.are_rows_within.b .nil pass0 (pa_cons (pv 6) (pa_cons (pv 4) pa_nil))))))))
    (pss_one (ps_ret (pe_lst (pa_cons (pe_gint rfl T.g_OUT_OF_RANGE) pa_nil))))
    pss_nil)
   (pss_cons (ps_if (L2.PW.pt (pw_and (pt_cmpR op_ne (pv 2) pe_int (nomark _)) (pw_and1 (pt_not (pt_val (pe_meth0 (pv 0) T.cl_House T.House_is_open.mt (ok_House_is_open T) (hr.mono (by decide)) T.House_is_open.b .nil pass0))))))
    (pss_one (ps_ret (pe_lst (pa_cons (pe_gint rfl T.g_NOT_OPEN) pa_nil))))
    pss_nil)
   (pss_one (ps_ret (pe_call (ok_answer_call T) (hr.mono (by decide)) rfl T.answer_call.m T.answer_call.F.kp T.answer_call.b .nil pass0 (pa_cons (pv 0) (pa_cons (pv 2) (pa_cons (pv 5) (pa_cons (pv 6) pa_nil)))))))))))))), ?_⟩
  refine ⟨_, rfl, ln, dxl, _, rfl, hLo, rfl, ln, ca, calls, pos, (q : Int), rfl, hL, hx, fun H1 hL1 hk1 => ?_⟩
  obtain ⟨ts, tq, hts, htq, hKR⟩ := T.t_NUMBER_RANGES.at (i := q) (show q < 17 by omega)
  refine ⟨_, rfl, a.a_NUMBER_RANGES, _, _, _, rfl, rfl, hts.sq H1, atI_nat (at_map htq), ?_⟩
  obtain ⟨r0, r1, r2, hD, hr0, hr1', hr2⟩ := T.t_ROW_RANGES
  refine ⟨⟨_, hD⟩, _, rfl, Nat.zero_le _, fun tt htt => ⟨(q : Int), _, rfl, hD, ?_⟩⟩
  have s2 := Same.new (o := .tup []) htt
  obtain ⟨b, hb, hRg⟩ : ∃ b, ((([(0, V.ref r0), (1, V.ref r1), (13, V.ref r2)] : List (Int × V)).lookup (q : Int)).getD (V.ref tt)) = V.ref b ∧ RangesAt K (upd H1 tt (.tup [])) b (rowRanges q) := by
   by_cases q0 : q = 0
   ·subst q0; exact ⟨r0, rfl, hr0.rangesAt _⟩
   by_cases q1 : q = 1
   ·subst q1; exact ⟨r1, rfl, hr1'.rangesAt _⟩
   by_cases q13 : q = 13
   ·subst q13; exact ⟨r2, rfl, hr2.rangesAt _⟩
   have e0 : ((q : Int) == 0) = false := beq_eq_false_iff_ne.mpr (by omega)
   have e1 : ((q : Int) == 1) = false := beq_eq_false_iff_ne.mpr (by omega)
   have e13 : ((q : Int) == 13) = false := beq_eq_false_iff_ne.mpr (by omega)
   refine ⟨tt, by simp only [List.lookup, e0, e1, e13]; rfl, ?_⟩
   have e : rowRanges q = [] := by unfold rowRanges; rw [if_neg q0, if_neg q1, if_neg q13]
   rw [e]
   exact ⟨[], rfl, .of upd_same, fun i r h => by simp at h⟩
  rw [hb]
  have hL2 := hL1.same s2
  obtain ⟨dx2, hL2o⟩ := hL2.obj
  obtain ⟨ns, hnsl, hnsS, _⟩ := hKR.at
  have hm1 : (ns.map V.ref).length = (numR q).length := by rw [List.length_map]; exact hnsl
  refine ⟨_, rfl, ln, dx2, _, rfl, hL2o, rfl, _, rfl, tq, _, rfl, .inr (hnsS _), ln, ca, calls, pos + 1, (ns.map V.ref).length, rfl, hL2, (by omega), fun H3 xn hxn hL3 hxn3 hk3 => ?_⟩
  rw [hm1] at hL3 hxn3
  rw [hr1, ← hnums] at hxn3
  have hRg3 := hRg.kp hL2o hk3
  obtain ⟨dx3, hL3o⟩ := hL3.obj
  obtain ⟨bs, hbsl, hbsS, hbsE⟩ := id hRg3
  have hm2 : (bs.map V.ref).length = (rowRanges q).length := by rw [List.length_map]; exact hbsl
  have hk4r : (rowRanges q).length ≤ 1000 := by unfold rowRanges; split <;> (try split) <;> (try split) <;> decide
  have hrows4 : PyFlat.rows (bs.map V.ref).length (calls.drop (pos + 1 + (numR q).length)) = some (xs, rest) := by
   rw [hm2, ← hrows, ← hr1, List.drop_drop]
  refine ⟨_, rfl, ln, dx3, _, rfl, hL3o, rfl, _, rfl, b, _, rfl, .inr hbsS, ln, ca, calls, pos + 1 + (numR q).length, (bs.map V.ref).length, xs, rest, rfl, hL3, (by omega), hrows4, fun H4 xr pos4 hL4 hd4 hR4 hxr hk4 => ?_⟩
  have hxn4 := hk4 _ _ hxn3 (ne_of hxn3 hL3o (by intro z; cases z))
  have hRg4 := hRg3.kp hL3o hk4
  have kp4 : Kp H H4 ln := hk1.trans ((Kp.ofSame s2).trans (hk3.trans hk4))
  have hA4 := hA.kp hL kp4
  have free : ∀ H6 p, Kp H H6 ln → (∃ o, H6 ln = some o) → H6 p = none → H p = none := fun H6 p h1 ⟨o, h2⟩ h3 => by
   cases e : H p with
   | none => rfl
   | some u =>
    exfalso
    by_cases z : p = ln
    ·rw [z, h2] at h3; cases h3
    ·rw [h1 _ _ e z] at h3; cases h3
  have out : ∀ (H6 : Hp) (i : Int), Same H4 H6 → Vbrgad.stepNumbers s (((q : Int) :: nums) :: xs) = (s, [i]) → ∀ p, H6 p = none → Q (V.ref p) (upd H6 p (.lst [V.int i])) := fun H6 i s6 he p hp => by
   rw [he] at k
   have s7 := s6.trans (Same.new (o := .lst [V.int i]) hp)
   refine k _ p pos4 le ou (hA4.same s7) (.inl rfl) (.inl rfl) (hL4.same s7) hd4 upd_same ?_ fun b' o e _ _ _ b4 => s7 _ _ (kp4 _ _ e b4)
   obtain ⟨dx4, hL4o⟩ := hL4.obj
   exact free H6 p (kp4.trans (Kp.ofSame s6)) ⟨_, s6 _ _ hL4o⟩ hp
  refine ⟨_, rfl, _, rfl, nums, numR q, xn, tq, rfl, .of hxn4, hKR, ?_, fun H5 s5 => ⟨_, rfl, ?_⟩⟩
  ·rw [hnl]
   have : (numR q).length ≤ r.length := hnr
   have hq' := hq
   show (numR q).length ≤ 1000
   match q, hq' with
   | 0, _ | 1, _ | 2, _ | 3, _ | 4, _ | 5, _ | 6, _ | 7, _ | 8, _ | 9, _ | 10, _ | 11, _ | 12, _ | 13, _ | 14, _ | 15, _ | 16, _ => decide
   | n + 17, h => omega
  have hnone : inRange q nums xs = false → Vbrgad.stepNumbers s (((q : Int) :: nums) :: xs) = (s, [-1]) := fun hf => by
   unfold Vbrgad.stepNumbers
   rw [hdec.2 hf]
  cases hb1 : (nums.zip (numR q)).all fun q => within q.2 q.1 with
  | false =>
   refine iteT (iteT ⟨(by show 1 ≤ sizeLine; decide), fun p hp => out H5 (-1) s5 (hnone ?_) p hp⟩)
   unfold inRange
   rw [hb1]; rfl
  | true =>
   refine iteF ⟨_, rfl, _, rfl, xs, rowRanges q, xr, b, rfl, hR4.same s5, hRg4.same s5, (by omega), fun H6 s6 => ⟨_, rfl, ?_⟩⟩
   have s46 := s5.trans s6
   cases hb2 : (xs.zip (rowRanges q)).all fun q => rowWithin q.2 q.1 with
   | false =>
    refine iteT ⟨(by show 1 ≤ sizeLine; decide), fun p hp => out H6 (-1) s46 (hnone ?_) p hp⟩
    unfold inRange
    rw [hb1, hb2]; rfl
   | true =>
    refine iteF ?_
    obtain ⟨c', hc', hca⟩ := hdec.1 (by unfold inRange; rw [hb1, hb2]; rfl)
    have hstep : Vbrgad.stepNumbers s (((q : Int) :: nums) :: xs) = Vbrgad.step s c' := by
     unfold Vbrgad.stepNumbers
     rw [hc']
    have hA6 := hA4.same s46
    obtain ⟨dx6, tr6, ls6, ks6, pr6, hO6, _⟩ := hA6.obj
    have call : (((q : Nat) : Int) ≠ 0 → s.opened = true) → sp_answer_call a.C_House [V.ref h, V.int (q : Int), V.ref xn, V.ref xr] H6 Q E0 := fun hop => by
     refine ⟨h, le, ou, xn, xr, s, (q : Int), nums, xs, c', rfl, hA6, hop, s46 _ _ hxn4, hR4.same s46, hca, ?_⟩
     intro H7 p le' ou' hA7 hle' hou' hK7 hp7 hpn
     have hL6 := hL4.same s46
     obtain ⟨dx6l, hL6o⟩ := hL6.obj
     have kp6 : Kp H H6 ln := kp4.trans (Kp.ofSame s46)
     rw [hstep] at k
     refine k H7 p pos4 le' ou' hA7 ?_ ?_ (hL6.hkp hA6 hK7 hne) hd4 hp7 (free H6 p kp6 ⟨_, hL6o⟩ hpn) fun b' o e b1 b2 b3 b4 => hK7 b' o (kp6 _ _ e b4) b1 b2 b3
     ·rcases hle' with e | e
      ·exact .inl e
      ·exact .inr (free H6 _ kp6 ⟨_, hL6o⟩ e)
     ·rcases hou' with e | e
      ·exact .inl e
      ·exact .inr (free H6 _ kp6 ⟨_, hL6o⟩ e)
    refine ⟨_, rfl, rfl, _, rfl, ?_⟩
    have e0 : decide (V.int ((q : Nat) : Int) = V.int 0) = decide (q = 0) := dec_len q 0
    rw [e0]
    by_cases hq0 : q = 0
    ·rw [decide_eq_true hq0]
     exact iteF (iteF ⟨_, rfl, _, rfl, _, rfl, _, rfl, call fun z => absurd (by rw [hq0]; rfl) z⟩)
    ·rw [decide_eq_false hq0]
     refine iteT ⟨_, rfl, h, dx6, _, rfl, hO6, rfl, h, le, ou, s, rfl, hA6, _, rfl, ?_⟩
     cases hop : s.opened with
     | true => exact iteF ⟨_, rfl, _, rfl, _, rfl, _, rfl, call fun _ => hop⟩
     | false =>
      refine iteT ⟨(by show 1 ≤ sizeLine; decide), fun p hp => out H6 (-2) s46 ?_ p hp⟩
      rw [hstep]
      unfold Vbrgad.step
      rw [if_pos ⟨hop, callAs_isOpens hca (by omega)⟩]
end UK
set_option Elab.async false
set_option linter.all false
set_option maxRecDepth 100000
set_option maxHeartbeats 4000000
namespace UK
open PySem PySem.Spec PyProof.Rows L2
variable {P : Program} {w : World} {K : PySem.W.Frag} {mg : Str → Option Value} {base : Heap} {a : Ads}
theorem l1 {x : Int} : [x].length ≤ 25 := by show 1 ≤ 25; decide
theorem l2 {x y : Int} : [x, y].length ≤ 25 := by show 2 ≤ 25; decide
theorem does_len {s t : Vbrgad.State} {c : Vbrgad.Call} {l : List Int} (ho : Vbrgad.isOpens c = false → Opened s) (h : Vbrgad.does s c = .ok (t, l)) : l.length ≤ 25 := by
 have fl : ∀ (p : Nat → Bool), s.truth.length ≤ 10 → (((List.range s.truth.length).filter p).map Vbrgad.nat).length ≤ 10 := fun p hn => by rw [List.length_map]; exact range_small hn
 cases c with
 | opens tr lo ki pr =>
  have h' : (if s.opened = true then .error (-3) else if Vbrgad.sound tr lo ki pr = false then .error (-4) else .ok (Vbrgad.begun tr lo ki pr, []) : Vbrgad.Res) = .ok (t, l) := h
  split at h'
  ·cases h'
  ·split at h' <;> cases h'
   exact Nat.zero_le _
 | outcomes z r =>
  have h' : (if (Vbrgad.table s z).isSome = true then .error (-5) else if r.length ≠ Vbrgad.size s then .error (-4) else .ok ({ s with outcomes := Vbrgad.mapAt (fun _ => some r) z s.outcomes }, []) : Vbrgad.Res) = .ok (t, l) := h
  split at h'
  ·cases h'
  ·split at h' <;> cases h'
   exact Nat.zero_le _
 | use lk z =>
  unfold Vbrgad.does at h
  dsimp only at h
  split at h
  ·cases h
  ·split at h <;> cases h
   exact l1
 | offer lk d =>
  unfold Vbrgad.does at h
  dsimp only at h
  split at h <;> cases h
  exact l1
 | tell lk =>
  unfold Vbrgad.does at h
  dsimp only at h
  split at h <;> cases h
  exact l1
 | ask lk kd =>
  unfold Vbrgad.does at h
  dsimp only at h
  split at h <;> cases h
  exact l1
 | possible lk =>
  have hn := (ho rfl).n10
  unfold Vbrgad.does at h
  dsimp only at h
  split at h <;> cases h
  exact Nat.le_trans (fl _ hn) (by decide)
 | certain =>
  have hn := (ho rfl).n10
  cases h
  rw [List.length_map, List.length_range]
  show s.truth.length ≤ 25
  omega
 | count => cases h; exact l1
 | allowed lk =>
  have hn := (ho rfl).n10
  unfold Vbrgad.does at h
  dsimp only at h
  split at h <;> cases h
  exact Nat.le_trans (fl _ hn) (by decide)
 | why lk kd =>
  have hn := (ho rfl).n10
  unfold Vbrgad.does at h
  dsimp only at h
  split at h
  ·cases h
  ·cases h
   split
   ·decide
   ·split
    ·decide
    ·split
     ·decide
     ·rw [List.length_cons]
      exact Nat.le_trans (Nat.succ_le_succ (fl _ hn)) (by decide)
 | try_ z =>
  unfold Vbrgad.does at h
  dsimp only at h
  split at h <;> cases h
  exact l2
 | odds lk kd =>
  unfold Vbrgad.does at h
  dsimp only at h
  split at h <;> cases h
  exact l2
 | fits r => cases h; exact l1
 | first =>
  have hn := (ho rfl).n10
  cases h
  rw [List.length_map]
  have := first_length s.truth.length s.truth.length 0 s.allowed
  show (Vbrgad.firstFrom s.truth.length s.truth.length 0 s.allowed).length ≤ 25
  omega
 | worth lk =>
  unfold Vbrgad.does at h
  dsimp only at h
  split at h <;> cases h
  exact l2
 | state =>
  have ho' := ho rfl
  have hn := ho'.n10
  have h1 := ho'.llen
  have h2 := ho'.klen
  cases h
  rw [List.length_append, List.length_append, List.length_map, List.length_map]
  show 2 + (s.lookSorts.length + s.kindSorts.length) ≤ 25
  omega
theorem ans_len {s : Vbrgad.State} (h : StOk s) (c : List (List Int)) : (Vbrgad.stepNumbers s c).2.length ≤ 26 := by
 unfold Vbrgad.stepNumbers
 cases Vbrgad.decode c with
 | none => show 1 ≤ 26; decide
 | some c' =>
  show (Vbrgad.step s c').2.length ≤ 26
  unfold Vbrgad.step
  by_cases hc : s.opened = false ∧ Vbrgad.isOpens c' = false
  ·rw [if_pos hc]
   show 1 ≤ 26; decide
  ·rw [if_neg hc]
   cases hd : Vbrgad.does s c' with
   | error e => show 1 ≤ 26; decide
   | ok r =>
    obtain ⟨t, l⟩ := r
    have := does_len (fun hi => h.opened (by
     cases e : s.opened with
     | true => rfl
     | false => exact absurd ⟨e, hi⟩ hc)) hd
    show (0 :: l).length ≤ 26
    rw [List.length_cons]; omega
theorem calls_nil {f : Nat} {cs : List (List (List Int))} (h : PyFlat.calls PyVbrgad.shape f [] = some cs) : cs = [] := by
 cases f <;> cases h <;> rfl
theorem calls_cons {f : Nat} {l : List Int} {cs : List (List (List Int))} (hl : l ≠ []) (h : PyFlat.calls PyVbrgad.shape f l = some cs) : ∃ c t f' cs', PyFlat.call PyVbrgad.shape l = some (c, t) ∧ PyFlat.calls PyVbrgad.shape f' t = some cs' ∧ cs = c :: cs' := by
 cases l with
 | nil => exact absurd rfl hl
 | cons p r =>
  cases f with
  | zero => cases h
  | succ f =>
   unfold PyFlat.calls at h
   cases e : PyFlat.call PyVbrgad.shape (p :: r) with
   | none => rw [e] at h; cases h
   | some ct =>
    obtain ⟨c, t⟩ := ct
    rw [e] at h
    dsimp only at h
    cases e2 : PyFlat.calls PyVbrgad.shape f t with
    | none => rw [e2] at h; cases h
    | some cs' =>
     rw [e2] at h
     cases h
     exact ⟨c, t, f, cs', rfl, e2, rfl⟩
theorem told_snoc (d : List (List Int)) (x : List Int) : PyFlat.told (d ++ [x]) = PyFlat.told d ++ ((x.length : Int) :: x) := by
 unfold PyFlat.told
 rw [List.flatMap_append]
 simp
theorem HouseAt.but {C : Addr} {H H2 : Hp} {h le ou g : Addr} {s : Vbrgad.State} {o : Obj} {u : HO} (x : HouseAt C H h le ou s) (hg : H g = some (.frz o u)) (k : ∀ b ob, H b = some ob → b ≠ g → H2 b = some ob) : HouseAt C H2 h le ou s := by
 obtain ⟨⟨dx, tr, ls, ks, pr, h1, h2, h3, h3', h3''⟩, ⟨kvs, g1, g2, g3⟩, ⟨rs, i1, i2⟩, h6⟩ := x
 have nl : ∀ b xs, H b = some (.lst xs) → H2 b = some (.lst xs) := fun b xs e => k _ _ e (ne_of e hg (by intro z; cases z))
 refine ⟨⟨dx, tr, ls, ks, pr, k _ _ h1 (ne_of h1 hg (by intro z; cases z)), nl _ _ h2, nl _ _ h3, nl _ _ h3', nl _ _ h3''⟩, ⟨kvs, k _ _ g1 (ne_of g1 hg (by intro z; cases z)), g2, fun z => ⟨fun row e => ?_, (g3 z).2⟩⟩, ⟨rs, nl _ _ i1, Paired.mapP i2 fun r ks e => nl _ _ e⟩, h6⟩
 obtain ⟨r, e1, e2⟩ := (g3 z).1 row e
 exact ⟨r, e1, nl _ _ e2⟩
theorem LineAt.but {C : Addr} {H H2 : Hp} {ln ca g : Addr} {calls : List Int} {pos : Nat} (x : LineAt K C H ln ca calls pos) (h1 : ln ≠ g) (h2 : ca ≠ g ∨ ∀ H, SqL K H ca (calls.map V.int)) (k : ∀ b ob, H b = some ob → b ≠ g → H2 b = some ob) : LineAt K C H2 ln ca calls pos := by
 obtain ⟨⟨dx, hl⟩, hs⟩ := x
 refine ⟨⟨dx, k _ _ hl h1⟩, ?_⟩
 rcases h2 with h2 | h2
 ·rcases hs with (hs | ⟨o, hs⟩) | hs
  ·exact .inl (.inl (k _ _ hs h2))
  ·exact .inl (.inr ⟨o, k _ _ hs h2⟩)
  ·exact .inr hs
 ·exact h2 H2
def sp_answers (K : PySem.W.Frag) : Sp := fun vs H Q _ => ∃ (ca : Addr) (calls : List Int), vs = [.ref ca] ∧ SqL K H ca (calls.map V.int) ∧ PyVbrgad.answers_asked calls = true ∧ ∀ H' p, H' p = some (.lst ((PyVbrgad.answers calls).map V.int)) → Q (.ref p) H'
theorem asked_at {calls : List Int} (h : PyVbrgad.answers_asked calls = true) : ∃ cs, PyFlat.calls PyVbrgad.shape calls.length calls = some cs ∧ cs.length ≤ 200 ∧ PyVbrgad.answers calls = PyFlat.told (PyFlat.played Vbrgad.stepNumbers Vbrgad.start cs) := by
 unfold PyVbrgad.answers_asked PyVbrgad.calls at h
 unfold PyVbrgad.answers PyVbrgad.calls
 cases e : PyFlat.calls PyVbrgad.shape calls.length calls with
 | none => rw [e] at h; cases h
 | some cs =>
  have ew : cs.map PyVbrgad.whole = cs := by
   conv => rhs; rw [← List.map_id cs]
   exact List.map_congr_left fun c _ => whole_id c
  rw [e] at h
  dsimp only at h ⊢
  rw [ew] at h ⊢
  rw [Bool.and_eq_true] at h
  exact ⟨cs, rfl, of_decide_eq_true h.1, rfl⟩
theorem ok_answers (T : Txt K mg a) : FnOk P w K mg base CX0 11 a.f_answers a.d_answers ["calls"] (sp_answers K) := by
 refine T.answers.F.ok sc_answers (fun vs H Q E h => ?_) (fun cdv A outer s H vs Q E hr h => ?_)
 ·obtain ⟨ca, calls, rfl, _⟩ := h; rfl
 ·obtain ⟨ca, calls, rfl, hS, hask, k⟩ := h
  obtain ⟨cs0, hcs0, hcl, hans⟩ := asked_at hask
  rw [hans] at k
  refine ⟨_, (pss_cons (ps_set (i := 1) sc_answers.nd rfl (.inl rfl) (pe_make T.mk_Line (ok_Line_init T) (hr.mono (by decide)) rfl T.c_Line T.Line_init.b .nil pass0 (pa_cons (pv 0) pa_nil)))
   (pss_cons (ps_set (i := 2) sc_answers.nd rfl (.inl rfl) (pe_make0 T.mk_House (ok_House_init T) (hr.mono (by decide)) rfl T.c_House T.House_init.b .nil pass0))
   (pss_cons (ps_set (i := 3) sc_answers.nd rfl (.inl rfl) (pe_lst pa_nil))
   (pss_cons (ps_while PassesOwn.never (pt_not (pt_val (pe_meth0 (pv 1) T.cl_Line T.Line_is_over.mt (ok_Line_is_over T) (hr.mono (by decide)) T.Line_is_over.b .nil pass0)))
    (pss_cons (ps_set (i := 4) sc_answers.nd rfl (.inl rfl) (pe_lock (pe_call (ok_answer_next T) (hr.mono (by decide)) rfl T.answer_next.m T.answer_next.F.kp T.answer_next.b .nil pass0 (pa_cons (pv 2) (pa_cons (pv 1) pa_nil)))))
   (pss_cons (ps_expr (pe_bm PySem.F.plainAttrs_list PySem.F.slot_list_append PySem.F.type_list_append mt_append (pv 3) (pa_cons (pe_callB (lenk K rfl) rfl T.b_len boot_len (pa_cons (pv 4) pa_nil)) pa_nil)))
   (pss_one (ps_expr (pe_bm PySem.F.plainAttrs_list PySem.F.slot_list_extend PySem.F.type_list_extend mt_extend (pv 3) (pa_cons (pv 4) pa_nil)))))))
   (pss_one (ps_ret (pv 3))))))), ?_⟩
  refine ⟨_, rfl, ?_⟩
  intro ln dx1 nx1 nd1 ne1
  refine ⟨ln, dx1, ca, rfl, upd_same, fun H1 hL1 kp1 => ⟨rfl, ?_⟩⟩
  have s1 : Same H H1 := Same.made nx1 nd1 kp1
  intro h dx2 nx2 nd2 ne2
  refine ⟨h, dx2, rfl, upd_same, fun H2 le0 ou0 hA2 hle0 hou0 kp2 => ⟨rfl, ?_⟩⟩
  have s2 : Same H1 H2 := Same.made nx2 nd2 kp2
  have s12 := s1.trans s2
  refine ⟨Nat.zero_le _, fun g hg => ?_⟩
  have s3 := Same.new (o := .lst []) hg
  have hcag : ca ≠ g ∨ ∀ H, SqL K H ca (calls.map V.int) := by
   rcases hS with (h | ⟨o, h⟩) | h
   ·exact .inl (ne_of_none (s12 _ _ h) hg)
   ·exact .inl (ne_of_none (s12 _ _ h) hg)
   ·exact .inr fun _ => .inr h
  have hL2 : LineAt K a.C_Line H2 ln ca calls 0 := ⟨⟨dx1, s2 _ _ hL1⟩, s12.seq hS⟩
  have hlng : ln ≠ g := ne_of_none (s2 _ _ hL1) hg
  refine ⟨fun μ σ H' => ∃ (v4 : Option V) (le ou : Addr) (s : Vbrgad.State) (pos f : Nat) (cs : List (List (List Int))) (done : List (List Int)), σ = [some (.ref ca), some (.ref ln), some (.ref h), some (.ref g), v4] ∧
   (∀ og u, HouseAt a.C_House (upd H' g (.frz og u)) h le ou s) ∧ LineAt K a.C_Line H' ln ca calls pos ∧ PyFlat.calls PyVbrgad.shape f (calls.drop pos) = some cs ∧ H' g = some (.lst ((PyFlat.told done).map V.int)) ∧
   done ++ PyFlat.played Vbrgad.stepNumbers s cs = PyFlat.played Vbrgad.stepNumbers Vbrgad.start cs0 ∧ (PyFlat.told done).length + 27 * cs.length ≤ 5400 ∧ μ = cs.length, ?_, ?_⟩
  ·refine ⟨cs0.length, none, le0, ou0, Vbrgad.start, 0, calls.length, cs0, [], rfl, fun og u => ?_, hL2.same s3, hcs0, upd_same, rfl, ?_, rfl⟩
   ·have e : upd (upd H2 g (.lst [])) g (.frz og u) = upd H2 g (.frz og u) := by
     funext b
     by_cases hb : b = g
     ·subst hb; rw [upd_same, upd_same]
     ·rw [upd_ne hb, upd_ne hb, upd_ne hb]
    rw [e]
    exact hA2.same (Same.new hg)
   ·show 0 + 27 * cs0.length ≤ 5400
    omega
  ·rintro μ σ H' ⟨v4, le, ou, s, pos, f, cs, done, rfl, hAF, hL, hcs, hg', hdone, hlen, rfl⟩
   obtain ⟨dxl, hLo⟩ := hL.obj
   refine ⟨_, rfl, ln, dxl, _, rfl, hLo, rfl, ln, ca, calls, pos, rfl, hL, _, rfl, ?_⟩
   by_cases hov : calls.length ≤ pos
   ·rw [decide_eq_true hov]
    rw [List.drop_of_length_le hov] at hcs
    have e := calls_nil hcs
    subst e
    refine iteF ⟨_, rfl, k H' g ?_⟩
    have e2 : done = PyFlat.played Vbrgad.stepNumbers Vbrgad.start cs0 := by rw [← hdone]; exact (List.append_nil done).symm
    rw [← e2]; exact hg'
   ·rw [decide_eq_false hov]
    have hdn : calls.drop pos ≠ [] := fun z => by
     have := congrArg List.length z
     rw [List.length_drop] at this
     simp at this
     omega
    obtain ⟨c, rest, f', cs', hcall, hcs', rfl⟩ := calls_cons hdn hcs
    have hal := ans_len (hAF ⟨.none, none, .fields #[], #[]⟩ (.lst [])).ok c
    refine iteT ⟨fun σ2 H2 => ∃ (v4 : Option V) (le ou : Addr) (pos : Nat), σ2 = [some (.ref ca), some (.ref ln), some (.ref h), some (.ref g), v4] ∧
     (∀ og u, HouseAt a.C_House (upd H2 g (.frz og u)) h le ou (Vbrgad.stepNumbers s c).1) ∧ LineAt K a.C_Line H2 ln ca calls pos ∧ calls.drop pos = rest ∧ H2 g = some (.lst ((PyFlat.told (done ++ [(Vbrgad.stepNumbers s c).2])).map V.int)), ?_, ?_⟩
    ·rintro σ2 H2 ⟨v4, le, ou, pos', e1, e2, e3, e4, e5⟩
     refine ⟨cs'.length, by simp, v4, le, ou, _, pos', f', cs', done ++ [(Vbrgad.stepNumbers s c).2], e1, e2, e3, by rw [e4]; exact hcs', e5, ?_, ?_, rfl⟩
     ·rw [List.append_assoc, ← hdone]; rfl
     ·rw [told_snoc, List.length_append, List.length_cons]
      rw [List.length_cons] at hlen
      omega
    ·refine ⟨g, _, hg', trivial, fun og => ⟨_, rfl, _, rfl, h, le, ou, ln, ca, s, calls, pos, c, rest, rfl, hAF og _, hL.but hlng hcag fun b ob e hb => by rw [upd_ne hb]; exact e, hcall, fun H3 p pos3 le3 ou3 hA3 hle3 hou3 hL3 hd3 hp3 hpn hfr => ?_⟩⟩
     have hAl := hAF og (.lst ((PyFlat.told done).map V.int))
     obtain ⟨dxh, trh, lsh, ksh, prh, hOh, _⟩ := hAl.obj
     obtain ⟨kvh, houh, _⟩ := hAl.outs
     obtain ⟨rsh, hleh, _⟩ := hAl.left
     have hgf : upd H' g (.frz og (.lst ((PyFlat.told done).map V.int))) g = some (.frz og (.lst ((PyFlat.told done).map V.int))) := upd_same
     have hg3 := hfr g _ hgf (ne_of hgf hOh (by intro z; cases z)) (ne_of hgf hleh (by intro z; cases z)) (ne_of hgf houh (by intro z; cases z)) (fun z => hlng z.symm)
     refine ⟨hg3, ?_⟩
     have hpg : p ≠ g := ne_of hp3 hg3 (by intro z; cases z)
     have hp4 : upd H3 g (.lst ((PyFlat.told done).map V.int)) p = some (.lst ((Vbrgad.stepNumbers s c).2.map V.int)) := by rw [upd_ne hpg]; exact hp3
     have hl1 : ((PyFlat.told done).map V.int).length < sizeLine := by
      rw [List.length_map]
      exact line1M (by omega)
     refine ⟨_, rfl, .inl ⟨rfl, _, .of upd_same⟩, _, rfl, p, _, rfl, .inl (.of hp4), g, _, _, rfl, rfl, upd_same, hl1, ?_⟩
     have hp5 : upd (upd H3 g (.lst ((PyFlat.told done).map V.int))) g (.lst ((PyFlat.told done).map V.int ++ [V.int ((((Vbrgad.stepNumbers s c).2.map V.int).length : Nat) : Int)])) p = some (.lst ((Vbrgad.stepNumbers s c).2.map V.int)) := by rw [upd_ne hpg]; exact hp4
     refine ⟨_, rfl, .inl ⟨rfl, _, .of upd_same⟩, _, rfl, g, p, _, _, rfl, rfl, upd_same, hp5, ?_, ?_⟩
     ·rw [List.length_append, List.length_map, List.length_map]
      show _ + 1 + _ ≤ sizeLine
      exact Nat.le_of_lt (line1M (by omega))
     ·have kf : ∀ b ob, H3 b = some ob → b ≠ g → upd (upd (upd H3 g (.lst ((PyFlat.told done).map V.int))) g (.lst ((PyFlat.told done).map V.int ++ [V.int ((((Vbrgad.stepNumbers s c).2.map V.int).length : Nat) : Int)]))) g
        (.lst (((PyFlat.told done).map V.int ++ [V.int ((((Vbrgad.stepNumbers s c).2.map V.int).length : Nat) : Int)]) ++ (Vbrgad.stepNumbers s c).2.map V.int)) b = some ob := fun b ob e hb => by
       rw [upd_ne hb, upd_ne hb, upd_ne hb]; exact e
      refine ⟨_, le3, ou3, pos3, rfl, fun og2 u2 => hA3.but hg3 fun b ob e hb => ?_, hL3.but hlng hcag kf, hd3, ?_⟩
      ·rw [upd_ne hb]; exact kf b ob e hb
      ·rw [upd_same, told_snoc, List.map_append, List.map_cons, List.append_assoc, List.length_map]; rfl
end UK
set_option Elab.async false
set_option linter.all false
set_option maxRecDepth 100000
set_option maxHeartbeats 4000000
namespace UK
open PySem PySem.Spec PyProof.Rows L2
open PySem.W (Codec)
section
variable {K : PySem.W.Frag} {h : Heap} {mg : Str → Option Value}
theorem dfF_mk {x : Str} {st : Stmt} {ps : List Str} {f : Addr} {oc : Value} {od an : Option Addr} {osl : Array (Option Value)} {kV doc pm cdv ct : Value} (X : K.In h) (G : h.Ns mainGlobals mg)
  (m : PySem.W.nsIn K mainGlobals x = some (some (.ref f))) (l : K.lookup f = some ⟨oc, od, .func (PySem.W.fnOf x x (defArgs st) (defBody st) (defScope st) .none kV doc pm an cdv ct), osl⟩) (c : PySem.W.codeIn K cdv x = true) (k : PySem.W.keepIn K (.ref f) = true)
  (hb : ∀ (kV doc pm : Value) (an : Option Addr) (cdv ct : Value) (us : List Value), us.length = ps.length → bindArgs (PySem.W.fnOf x x (defArgs st) (defBody st) (defScope st) .none kV doc pm an cdv ct) ⟨us, []⟩ = pure (ps.zip us)) :
  DfF K mg x st ps f (PySem.W.fnOf x x (defArgs st) (defBody st) (defScope st) .none kV doc pm an cdv ct) := ⟨fun_mk l c k, (fun_mk l c k).binds hb, PySem.W.mg_of X G m⟩
theorem dfM_mk {C : Addr} {x qual : Str} {st : Stmt} {ps : List Str} {f : Addr} {oc : Value} {od an : Option Addr} {osl : Array (Option Value)} {kV doc pm cdv ct : Value}
  (m : PySem.W.findIn K (.ref C) x = some (some (.ref f))) (i : PySem.W.isFn K (.ref f) = true) (l : K.lookup f = some ⟨oc, od, .func (PySem.W.fnOf x qual (defArgs st) (defBody st) (defScope st) .none kV doc pm an cdv ct), osl⟩) (c : PySem.W.codeIn K cdv qual = true) (k : PySem.W.keepIn K (.ref f) = true)
  (hb : ∀ (kV doc pm : Value) (an : Option Addr) (cdv ct : Value) (us : List Value), us.length = ps.length → bindArgs (PySem.W.fnOf x qual (defArgs st) (defBody st) (defScope st) .none kV doc pm an cdv ct) ⟨us, []⟩ = pure (ps.zip us)) :
  DfM K C x qual st ps f (PySem.W.fnOf x qual (defArgs st) (defBody st) (defScope st) .none kV doc pm an cdv ct) := ⟨fun_mk l c k, (fun_mk l c k).binds hb, ⟨m, i, k⟩⟩
theorem pair_mk {r : Addr} {lo hi : Int} {t u : Tok} {od : Option Addr} {n : Nat} {sl : Array (Option Value)} (l : K.lookup r = some ⟨.type "tuple", od, .seq #[.int lo t, .int hi u] n, sl⟩) : KTup K r [V.int lo, V.int hi] :=
 ⟨_, _, n, l, rfl, rfl, (by show 2 ≤ sizeLine; decide), .cons ⟨t, rfl⟩ (.cons ⟨u, rfl⟩ .nil)⟩
theorem refs_vals : ∀ rs : List Addr, Vals (rs.map V.ref) (rs.map Value.ref)
 | [] => .nil
 | r :: rs => .cons rfl (refs_vals rs)
theorem tup_mk {r : Addr} {rs : List Addr} {its : Array Value} {od : Option Addr} {n : Nat} {sl : Array (Option Value)} (l : K.lookup r = some ⟨.type "tuple", od, .seq its n, sl⟩) (e : its.toList = rs.map Value.ref) (hl : rs.length ≤ 1000) : KTup K r (rs.map V.ref) := by
 refine ⟨_, its, n, l, rfl, rfl, ?_, by rw [e]; exact refs_vals rs⟩
 have := congrArg List.length e
 rw [Array.length_toList, List.length_map] at this
 rw [this]
 exact Nat.le_of_lt (small1000 (by omega))
variable {Goal : Prop}
theorem with_V (x : Str) {v : Value} (X : K.In h) (G : h.Ns mainGlobals mg) (m : PySem.W.nsIn K mainGlobals x = some (some v)) (cont : mg x = some v → Goal) : Goal := cont (PySem.W.mg_of X G m)
theorem with_F (x : Str) (st : Stmt) (ps : List Str) {f : Addr} {oc : Value} {od an : Option Addr} {osl : Array (Option Value)} {kV doc pm cdv ct : Value} (X : K.In h) (G : h.Ns mainGlobals mg)
  (m : PySem.W.nsIn K mainGlobals x = some (some (.ref f))) (l : K.lookup f = some ⟨oc, od, .func (PySem.W.fnOf x x (defArgs st) (defBody st) (defScope st) .none kV doc pm an cdv ct), osl⟩) (c : PySem.W.codeIn K cdv x = true) (k : PySem.W.keepIn K (.ref f) = true)
  (hb : ∀ (kV doc pm : Value) (an : Option Addr) (cdv ct : Value) (us : List Value), us.length = ps.length → bindArgs (PySem.W.fnOf x x (defArgs st) (defBody st) (defScope st) .none kV doc pm an cdv ct) ⟨us, []⟩ = pure (ps.zip us))
  (cont : ∀ (f : Addr) (fd : FuncData), DfF K mg x st ps f fd → Goal) : Goal := cont _ _ (dfF_mk X G m l c k hb)
theorem with_A (x : Str) (st : Stmt) (ps : List Str) {f : Addr} {oc : Value} {od an : Option Addr} {osl : Array (Option Value)} {kV doc pm cdv ct : Value} (X : K.In h) (G : h.Ns mainGlobals mg)
  (m : PySem.W.nsIn K mainGlobals x = some (some (.ref f))) (l : K.lookup f = some ⟨oc, od, .func (PySem.W.fnOf x x (defArgs st) (defBody st) (defScope st) .none kV doc pm an cdv ct), osl⟩) (c : PySem.W.codeIn K cdv x = true) (k : PySem.W.keepIn K (.ref f) = true)
  (hb : ∀ (kV doc pm : Value) (an : Option Addr) (cdv ct : Value) (us : List Value), us.length = ps.length → bindArgs (PySem.W.fnOf x x (defArgs st) (defBody st) (defScope st) .none kV doc pm an cdv ct) ⟨us, []⟩ = pure (ps.zip us))
  (cont : ∀ (f : Addr) (fd : FuncData), DfF K mg x st ps f fd → (∀ (s : Shared) (us : List Value), us.length = ps.length → BindsTo s fd ⟨us, []⟩ (ps.zip us)) → Goal) : Goal := cont _ _ (dfF_mk X G m l c k hb) (fun s us hu => .of_eq (hb _ _ _ _ _ _ us hu))
theorem with_Line {C : Addr} {f0 : Addr} {od0 an0 : Option Addr} {sl0 : Array (Option Value)} {oc0 kV0 dc0 pm0 cd0 ct0 : Value} {f1 : Addr} {od1 an1 : Option Addr} {sl1 : Array (Option Value)} {oc1 kV1 dc1 pm1 cd1 ct1 : Value} {f2 : Addr} {od2 an2 : Option Addr} {sl2 : Array (Option Value)} {oc2 kV2 dc2 pm2 cd2 ct2 : Value} {f3 : Addr} {od3 an3 : Option Addr} {sl3 : Array (Option Value)} {oc3 kV3 dc3 pm3 cd3 ct3 : Value} {f4 : Addr} {od4 an4 : Option Addr} {sl4 : Array (Option Value)} {oc4 kV4 dc4 pm4 cd4 ct4 : Value} (X : K.In h) (G : h.Ns mainGlobals mg) (aC : PySem.W.nsIn K mainGlobals "Line" = some (some (.ref C))) (pg : PySem.W.plainGet K C Str.empty = true) (hd : PySem.W.hasDictIn K C = true) (po : PySem.W.plainOver K C = true) (sa : PySem.W.findIn K (.ref C) "__setattr__" = some (some (.builtin "object.__setattr__"))) (mk : PySem.W.makesIn K C = true) (kc : PySem.W.keepIn K (.ref C) = true) (n_calls : PySem.W.findIn K (.ref C) "calls" = some none) (n_place : PySem.W.findIn K (.ref C) "place" = some none) (m0 : PySem.W.findIn K (.ref C) "__init__" = some (some (.ref f0))) (i0 : PySem.W.isFn K (.ref f0) = true) (l0 : K.lookup f0 = some ⟨oc0, od0, .func (PySem.W.fnOf "__init__" "Line.__init__" (defArgs s_Line_init) (defBody s_Line_init) (defScope s_Line_init) .none kV0 dc0 pm0 an0 cd0 ct0), sl0⟩) (c0 : PySem.W.codeIn K cd0 "Line.__init__" = true) (k0 : PySem.W.keepIn K (.ref f0) = true) (m1 : PySem.W.findIn K (.ref C) "is_over" = some (some (.ref f1))) (i1 : PySem.W.isFn K (.ref f1) = true) (l1 : K.lookup f1 = some ⟨oc1, od1, .func (PySem.W.fnOf "is_over" "Line.is_over" (defArgs s_Line_is_over) (defBody s_Line_is_over) (defScope s_Line_is_over) .none kV1 dc1 pm1 an1 cd1 ct1), sl1⟩) (c1 : PySem.W.codeIn K cd1 "Line.is_over" = true) (k1 : PySem.W.keepIn K (.ref f1) = true) (m2 : PySem.W.findIn K (.ref C) "take_number" = some (some (.ref f2))) (i2 : PySem.W.isFn K (.ref f2) = true) (l2 : K.lookup f2 = some ⟨oc2, od2, .func (PySem.W.fnOf "take_number" "Line.take_number" (defArgs s_Line_take_number) (defBody s_Line_take_number) (defScope s_Line_take_number) .none kV2 dc2 pm2 an2 cd2 ct2), sl2⟩) (c2 : PySem.W.codeIn K cd2 "Line.take_number" = true) (k2 : PySem.W.keepIn K (.ref f2) = true) (m3 : PySem.W.findIn K (.ref C) "take_numbers" = some (some (.ref f3))) (i3 : PySem.W.isFn K (.ref f3) = true) (l3 : K.lookup f3 = some ⟨oc3, od3, .func (PySem.W.fnOf "take_numbers" "Line.take_numbers" (defArgs s_Line_take_numbers) (defBody s_Line_take_numbers) (defScope s_Line_take_numbers) .none kV3 dc3 pm3 an3 cd3 ct3), sl3⟩) (c3 : PySem.W.codeIn K cd3 "Line.take_numbers" = true) (k3 : PySem.W.keepIn K (.ref f3) = true) (m4 : PySem.W.findIn K (.ref C) "take_rows" = some (some (.ref f4))) (i4 : PySem.W.isFn K (.ref f4) = true) (l4 : K.lookup f4 = some ⟨oc4, od4, .func (PySem.W.fnOf "take_rows" "Line.take_rows" (defArgs s_Line_take_rows) (defBody s_Line_take_rows) (defScope s_Line_take_rows) .none kV4 dc4 pm4 an4 cd4 ct4), sl4⟩) (c4 : PySem.W.codeIn K cd4 "Line.take_rows" = true) (k4 : PySem.W.keepIn K (.ref f4) = true)
  (cont : ∀ (C f_Line_init f_Line_is_over f_Line_take_number f_Line_take_numbers f_Line_take_rows : Addr) (d_Line_init d_Line_is_over d_Line_take_number d_Line_take_numbers d_Line_take_rows : FuncData), Cls K C → mg "Line" = some (.ref C) → Mk K C f_Line_init → NoAttr K C "calls" → NoAttr K C "place" → DfM K C "__init__" "Line.__init__" s_Line_init ["self", "calls"] f_Line_init d_Line_init → DfM K C "is_over" "Line.is_over" s_Line_is_over ["self"] f_Line_is_over d_Line_is_over → DfM K C "take_number" "Line.take_number" s_Line_take_number ["self"] f_Line_take_number d_Line_take_number → DfM K C "take_numbers" "Line.take_numbers" s_Line_take_numbers ["self", "how_many"] f_Line_take_numbers d_Line_take_numbers → DfM K C "take_rows" "Line.take_rows" s_Line_take_rows ["self", "how_many"] f_Line_take_rows d_Line_take_rows → Goal) : Goal := cont C f0 f1 f2 f3 f4 _ _ _ _ _ ⟨pg, hd, po, sa⟩ (PySem.W.mg_of X G aC) ⟨mk, m0, i0, kc⟩ n_calls n_place (dfM_mk m0 i0 l0 c0 k0 (fun _ _ _ _ _ _ us hl => match us, hl with | [_, _], _ => rfl)) (dfM_mk m1 i1 l1 c1 k1 (fun _ _ _ _ _ _ us hl => match us, hl with | [_], _ => rfl)) (dfM_mk m2 i2 l2 c2 k2 (fun _ _ _ _ _ _ us hl => match us, hl with | [_], _ => rfl)) (dfM_mk m3 i3 l3 c3 k3 (fun _ _ _ _ _ _ us hl => match us, hl with | [_, _], _ => rfl)) (dfM_mk m4 i4 l4 c4 k4 (fun _ _ _ _ _ _ us hl => match us, hl with | [_, _], _ => rfl))
theorem with_House {C : Addr} {f0 : Addr} {od0 an0 : Option Addr} {sl0 : Array (Option Value)} {oc0 kV0 dc0 pm0 cd0 ct0 : Value} {f1 : Addr} {od1 an1 : Option Addr} {sl1 : Array (Option Value)} {oc1 kV1 dc1 pm1 cd1 ct1 : Value} {f2 : Addr} {od2 an2 : Option Addr} {sl2 : Array (Option Value)} {oc2 kV2 dc2 pm2 cd2 ct2 : Value} {f3 : Addr} {od3 an3 : Option Addr} {sl3 : Array (Option Value)} {oc3 kV3 dc3 pm3 cd3 ct3 : Value} (X : K.In h) (G : h.Ns mainGlobals mg) (aC : PySem.W.nsIn K mainGlobals "House" = some (some (.ref C))) (pg : PySem.W.plainGet K C Str.empty = true) (hd : PySem.W.hasDictIn K C = true) (po : PySem.W.plainOver K C = true) (sa : PySem.W.findIn K (.ref C) "__setattr__" = some (some (.builtin "object.__setattr__"))) (mk : PySem.W.makesIn K C = true) (kc : PySem.W.keepIn K (.ref C) = true) (n_truth : PySem.W.findIn K (.ref C) "truth" = some none) (n_look_sorts : PySem.W.findIn K (.ref C) "look_sorts" = some none) (n_kind_sorts : PySem.W.findIn K (.ref C) "kind_sorts" = some none) (n_prices : PySem.W.findIn K (.ref C) "prices" = some none) (n_outcomes : PySem.W.findIn K (.ref C) "outcomes" = some none) (n_left : PySem.W.findIn K (.ref C) "left" = some none) (n_shown : PySem.W.findIn K (.ref C) "shown" = some none) (m0 : PySem.W.findIn K (.ref C) "__init__" = some (some (.ref f0))) (i0 : PySem.W.isFn K (.ref f0) = true) (l0 : K.lookup f0 = some ⟨oc0, od0, .func (PySem.W.fnOf "__init__" "House.__init__" (defArgs s_House_init) (defBody s_House_init) (defScope s_House_init) .none kV0 dc0 pm0 an0 cd0 ct0), sl0⟩) (c0 : PySem.W.codeIn K cd0 "House.__init__" = true) (k0 : PySem.W.keepIn K (.ref f0) = true) (m1 : PySem.W.findIn K (.ref C) "is_open" = some (some (.ref f1))) (i1 : PySem.W.isFn K (.ref f1) = true) (l1 : K.lookup f1 = some ⟨oc1, od1, .func (PySem.W.fnOf "is_open" "House.is_open" (defArgs s_House_is_open) (defBody s_House_is_open) (defScope s_House_is_open) .none kV1 dc1 pm1 an1 cd1 ct1), sl1⟩) (c1 : PySem.W.codeIn K cd1 "House.is_open" = true) (k1 : PySem.W.keepIn K (.ref f1) = true) (m2 : PySem.W.findIn K (.ref C) "has" = some (some (.ref f2))) (i2 : PySem.W.isFn K (.ref f2) = true) (l2 : K.lookup f2 = some ⟨oc2, od2, .func (PySem.W.fnOf "has" "House.has" (defArgs s_House_has) (defBody s_House_has) (defScope s_House_has) .none kV2 dc2 pm2 an2 cd2 ct2), sl2⟩) (c2 : PySem.W.codeIn K cd2 "House.has" = true) (k2 : PySem.W.keepIn K (.ref f2) = true) (m3 : PySem.W.findIn K (.ref C) "show" = some (some (.ref f3))) (i3 : PySem.W.isFn K (.ref f3) = true) (l3 : K.lookup f3 = some ⟨oc3, od3, .func (PySem.W.fnOf "show" "House.show" (defArgs s_House_show) (defBody s_House_show) (defScope s_House_show) .none kV3 dc3 pm3 an3 cd3 ct3), sl3⟩) (c3 : PySem.W.codeIn K cd3 "House.show" = true) (k3 : PySem.W.keepIn K (.ref f3) = true)
  (cont : ∀ (C f_House_init f_House_is_open f_House_has f_House_show : Addr) (d_House_init d_House_is_open d_House_has d_House_show : FuncData), Cls K C → mg "House" = some (.ref C) → Mk K C f_House_init → NoAttr K C "truth" → NoAttr K C "look_sorts" → NoAttr K C "kind_sorts" → NoAttr K C "prices" → NoAttr K C "outcomes" → NoAttr K C "left" → NoAttr K C "shown" → DfM K C "__init__" "House.__init__" s_House_init ["self"] f_House_init d_House_init → DfM K C "is_open" "House.is_open" s_House_is_open ["self"] f_House_is_open d_House_is_open → DfM K C "has" "House.has" s_House_has ["self", "look_or_kind"] f_House_has d_House_has → DfM K C "show" "House.show" s_House_show ["self", "look", "staying"] f_House_show d_House_show → Goal) : Goal := cont C f0 f1 f2 f3 _ _ _ _ ⟨pg, hd, po, sa⟩ (PySem.W.mg_of X G aC) ⟨mk, m0, i0, kc⟩ n_truth n_look_sorts n_kind_sorts n_prices n_outcomes n_left n_shown (dfM_mk m0 i0 l0 c0 k0 (fun _ _ _ _ _ _ us hl => match us, hl with | [_], _ => rfl)) (dfM_mk m1 i1 l1 c1 k1 (fun _ _ _ _ _ _ us hl => match us, hl with | [_], _ => rfl)) (dfM_mk m2 i2 l2 c2 k2 (fun _ _ _ _ _ _ us hl => match us, hl with | [_, _], _ => rfl)) (dfM_mk m3 i3 l3 c3 k3 (fun _ _ _ _ _ _ us hl => match us, hl with | [_, _, _], _ => rfl))
theorem with_N {a : Addr} {o_a : Option Addr} {n_a : Nat} {s_a : Array (Option Value)} {a_0 : Addr} {o_a_0 : Option Addr} {n_a_0 : Nat} {s_a_0 : Array (Option Value)} {a_1 : Addr} {o_a_1 : Option Addr} {n_a_1 : Nat} {s_a_1 : Array (Option Value)} {a_1_0 : Addr} {o_a_1_0 : Option Addr} {n_a_1_0 : Nat} {s_a_1_0 : Array (Option Value)} {x_a_1_0 y_a_1_0 : Tok} {a_2 : Addr} {o_a_2 : Option Addr} {n_a_2 : Nat} {s_a_2 : Array (Option Value)} {a_2_0 : Addr} {o_a_2_0 : Option Addr} {n_a_2_0 : Nat} {s_a_2_0 : Array (Option Value)} {x_a_2_0 y_a_2_0 : Tok} {a_2_1 : Addr} {o_a_2_1 : Option Addr} {n_a_2_1 : Nat} {s_a_2_1 : Array (Option Value)} {x_a_2_1 y_a_2_1 : Tok} {a_3 : Addr} {o_a_3 : Option Addr} {n_a_3 : Nat} {s_a_3 : Array (Option Value)} {a_3_0 : Addr} {o_a_3_0 : Option Addr} {n_a_3_0 : Nat} {s_a_3_0 : Array (Option Value)} {x_a_3_0 y_a_3_0 : Tok} {a_3_1 : Addr} {o_a_3_1 : Option Addr} {n_a_3_1 : Nat} {s_a_3_1 : Array (Option Value)} {x_a_3_1 y_a_3_1 : Tok} {a_4 : Addr} {o_a_4 : Option Addr} {n_a_4 : Nat} {s_a_4 : Array (Option Value)} {a_4_0 : Addr} {o_a_4_0 : Option Addr} {n_a_4_0 : Nat} {s_a_4_0 : Array (Option Value)} {x_a_4_0 y_a_4_0 : Tok} {a_5 : Addr} {o_a_5 : Option Addr} {n_a_5 : Nat} {s_a_5 : Array (Option Value)} {a_5_0 : Addr} {o_a_5_0 : Option Addr} {n_a_5_0 : Nat} {s_a_5_0 : Array (Option Value)} {x_a_5_0 y_a_5_0 : Tok} {a_5_1 : Addr} {o_a_5_1 : Option Addr} {n_a_5_1 : Nat} {s_a_5_1 : Array (Option Value)} {x_a_5_1 y_a_5_1 : Tok} {a_6 : Addr} {o_a_6 : Option Addr} {n_a_6 : Nat} {s_a_6 : Array (Option Value)} {a_6_0 : Addr} {o_a_6_0 : Option Addr} {n_a_6_0 : Nat} {s_a_6_0 : Array (Option Value)} {x_a_6_0 y_a_6_0 : Tok} {a_7 : Addr} {o_a_7 : Option Addr} {n_a_7 : Nat} {s_a_7 : Array (Option Value)} {a_8 : Addr} {o_a_8 : Option Addr} {n_a_8 : Nat} {s_a_8 : Array (Option Value)} {a_9 : Addr} {o_a_9 : Option Addr} {n_a_9 : Nat} {s_a_9 : Array (Option Value)} {a_9_0 : Addr} {o_a_9_0 : Option Addr} {n_a_9_0 : Nat} {s_a_9_0 : Array (Option Value)} {x_a_9_0 y_a_9_0 : Tok} {a_10 : Addr} {o_a_10 : Option Addr} {n_a_10 : Nat} {s_a_10 : Array (Option Value)} {a_10_0 : Addr} {o_a_10_0 : Option Addr} {n_a_10_0 : Nat} {s_a_10_0 : Array (Option Value)} {x_a_10_0 y_a_10_0 : Tok} {a_10_1 : Addr} {o_a_10_1 : Option Addr} {n_a_10_1 : Nat} {s_a_10_1 : Array (Option Value)} {x_a_10_1 y_a_10_1 : Tok} {a_11 : Addr} {o_a_11 : Option Addr} {n_a_11 : Nat} {s_a_11 : Array (Option Value)} {a_11_0 : Addr} {o_a_11_0 : Option Addr} {n_a_11_0 : Nat} {s_a_11_0 : Array (Option Value)} {x_a_11_0 y_a_11_0 : Tok} {a_12 : Addr} {o_a_12 : Option Addr} {n_a_12 : Nat} {s_a_12 : Array (Option Value)} {a_12_0 : Addr} {o_a_12_0 : Option Addr} {n_a_12_0 : Nat} {s_a_12_0 : Array (Option Value)} {x_a_12_0 y_a_12_0 : Tok} {a_12_1 : Addr} {o_a_12_1 : Option Addr} {n_a_12_1 : Nat} {s_a_12_1 : Array (Option Value)} {x_a_12_1 y_a_12_1 : Tok} {a_13 : Addr} {o_a_13 : Option Addr} {n_a_13 : Nat} {s_a_13 : Array (Option Value)} {a_14 : Addr} {o_a_14 : Option Addr} {n_a_14 : Nat} {s_a_14 : Array (Option Value)} {a_15 : Addr} {o_a_15 : Option Addr} {n_a_15 : Nat} {s_a_15 : Array (Option Value)} {a_15_0 : Addr} {o_a_15_0 : Option Addr} {n_a_15_0 : Nat} {s_a_15_0 : Array (Option Value)} {x_a_15_0 y_a_15_0 : Tok} {a_16 : Addr} {o_a_16 : Option Addr} {n_a_16 : Nat} {s_a_16 : Array (Option Value)} (X : K.In h) (G : h.Ns mainGlobals mg) (m : PySem.W.nsIn K mainGlobals "NUMBER_RANGES" = some (some (.ref a))) (t_a : K.lookup a = some ⟨.type "tuple", o_a, .seq #[.ref a_0, .ref a_1, .ref a_2, .ref a_3, .ref a_4, .ref a_5, .ref a_6, .ref a_7, .ref a_8, .ref a_9, .ref a_10, .ref a_11, .ref a_12, .ref a_13, .ref a_14, .ref a_15, .ref a_16] n_a, s_a⟩) (t_a_0 : K.lookup a_0 = some ⟨.type "tuple", o_a_0, .seq #[] n_a_0, s_a_0⟩) (t_a_1 : K.lookup a_1 = some ⟨.type "tuple", o_a_1, .seq #[.ref a_1_0] n_a_1, s_a_1⟩) (t_a_1_0 : K.lookup a_1_0 = some ⟨.type "tuple", o_a_1_0, .seq #[.int (0) x_a_1_0, .int (7) y_a_1_0] n_a_1_0, s_a_1_0⟩) (t_a_2 : K.lookup a_2 = some ⟨.type "tuple", o_a_2, .seq #[.ref a_2_0, .ref a_2_1] n_a_2, s_a_2⟩) (t_a_2_0 : K.lookup a_2_0 = some ⟨.type "tuple", o_a_2_0, .seq #[.int (0) x_a_2_0, .int (9) y_a_2_0] n_a_2_0, s_a_2_0⟩) (t_a_2_1 : K.lookup a_2_1 = some ⟨.type "tuple", o_a_2_1, .seq #[.int (0) x_a_2_1, .int (7) y_a_2_1] n_a_2_1, s_a_2_1⟩) (t_a_3 : K.lookup a_3 = some ⟨.type "tuple", o_a_3, .seq #[.ref a_3_0, .ref a_3_1] n_a_3, s_a_3⟩) (t_a_3_0 : K.lookup a_3_0 = some ⟨.type "tuple", o_a_3_0, .seq #[.int (0) x_a_3_0, .int (9) y_a_3_0] n_a_3_0, s_a_3_0⟩) (t_a_3_1 : K.lookup a_3_1 = some ⟨.type "tuple", o_a_3_1, .seq #[.int (0) x_a_3_1, .int (1) y_a_3_1] n_a_3_1, s_a_3_1⟩) (t_a_4 : K.lookup a_4 = some ⟨.type "tuple", o_a_4, .seq #[.ref a_4_0] n_a_4, s_a_4⟩) (t_a_4_0 : K.lookup a_4_0 = some ⟨.type "tuple", o_a_4_0, .seq #[.int (0) x_a_4_0, .int (9) y_a_4_0] n_a_4_0, s_a_4_0⟩) (t_a_5 : K.lookup a_5 = some ⟨.type "tuple", o_a_5, .seq #[.ref a_5_0, .ref a_5_1] n_a_5, s_a_5⟩) (t_a_5_0 : K.lookup a_5_0 = some ⟨.type "tuple", o_a_5_0, .seq #[.int (0) x_a_5_0, .int (9) y_a_5_0] n_a_5_0, s_a_5_0⟩) (t_a_5_1 : K.lookup a_5_1 = some ⟨.type "tuple", o_a_5_1, .seq #[.int (0) x_a_5_1, .int (9) y_a_5_1] n_a_5_1, s_a_5_1⟩) (t_a_6 : K.lookup a_6 = some ⟨.type "tuple", o_a_6, .seq #[.ref a_6_0] n_a_6, s_a_6⟩) (t_a_6_0 : K.lookup a_6_0 = some ⟨.type "tuple", o_a_6_0, .seq #[.int (0) x_a_6_0, .int (9) y_a_6_0] n_a_6_0, s_a_6_0⟩) (t_a_7 : K.lookup a_7 = some ⟨.type "tuple", o_a_7, .seq #[] n_a_7, s_a_7⟩) (t_a_8 : K.lookup a_8 = some ⟨.type "tuple", o_a_8, .seq #[] n_a_8, s_a_8⟩) (t_a_9 : K.lookup a_9 = some ⟨.type "tuple", o_a_9, .seq #[.ref a_9_0] n_a_9, s_a_9⟩) (t_a_9_0 : K.lookup a_9_0 = some ⟨.type "tuple", o_a_9_0, .seq #[.int (0) x_a_9_0, .int (9) y_a_9_0] n_a_9_0, s_a_9_0⟩) (t_a_10 : K.lookup a_10 = some ⟨.type "tuple", o_a_10, .seq #[.ref a_10_0, .ref a_10_1] n_a_10, s_a_10⟩) (t_a_10_0 : K.lookup a_10_0 = some ⟨.type "tuple", o_a_10_0, .seq #[.int (0) x_a_10_0, .int (9) y_a_10_0] n_a_10_0, s_a_10_0⟩) (t_a_10_1 : K.lookup a_10_1 = some ⟨.type "tuple", o_a_10_1, .seq #[.int (0) x_a_10_1, .int (9) y_a_10_1] n_a_10_1, s_a_10_1⟩) (t_a_11 : K.lookup a_11 = some ⟨.type "tuple", o_a_11, .seq #[.ref a_11_0] n_a_11, s_a_11⟩) (t_a_11_0 : K.lookup a_11_0 = some ⟨.type "tuple", o_a_11_0, .seq #[.int (0) x_a_11_0, .int (7) y_a_11_0] n_a_11_0, s_a_11_0⟩) (t_a_12 : K.lookup a_12 = some ⟨.type "tuple", o_a_12, .seq #[.ref a_12_0, .ref a_12_1] n_a_12, s_a_12⟩) (t_a_12_0 : K.lookup a_12_0 = some ⟨.type "tuple", o_a_12_0, .seq #[.int (0) x_a_12_0, .int (9) y_a_12_0] n_a_12_0, s_a_12_0⟩) (t_a_12_1 : K.lookup a_12_1 = some ⟨.type "tuple", o_a_12_1, .seq #[.int (0) x_a_12_1, .int (9) y_a_12_1] n_a_12_1, s_a_12_1⟩) (t_a_13 : K.lookup a_13 = some ⟨.type "tuple", o_a_13, .seq #[] n_a_13, s_a_13⟩) (t_a_14 : K.lookup a_14 = some ⟨.type "tuple", o_a_14, .seq #[] n_a_14, s_a_14⟩) (t_a_15 : K.lookup a_15 = some ⟨.type "tuple", o_a_15, .seq #[.ref a_15_0] n_a_15, s_a_15⟩) (t_a_15_0 : K.lookup a_15_0 = some ⟨.type "tuple", o_a_15_0, .seq #[.int (0) x_a_15_0, .int (9) y_a_15_0] n_a_15_0, s_a_15_0⟩) (t_a_16 : K.lookup a_16 = some ⟨.type "tuple", o_a_16, .seq #[] n_a_16, s_a_16⟩)
  (cont : ∀ a, mg "NUMBER_RANGES" = some (.ref a) → KTable K a numberRanges → Goal) : Goal :=
 cont a (PySem.W.mg_of X G m) ⟨[a_0, a_1, a_2, a_3, a_4, a_5, a_6, a_7, a_8, a_9, a_10, a_11, a_12, a_13, a_14, a_15, a_16], tup_mk t_a rfl (Nat.le_of_ble_eq_true rfl), (.cons ⟨[], tup_mk t_a_0 rfl (Nat.le_of_ble_eq_true rfl), .nil⟩ (.cons ⟨[a_1_0], tup_mk t_a_1 rfl (Nat.le_of_ble_eq_true rfl), (.cons (pair_mk t_a_1_0) .nil)⟩ (.cons ⟨[a_2_0, a_2_1], tup_mk t_a_2 rfl (Nat.le_of_ble_eq_true rfl), (.cons (pair_mk t_a_2_0) (.cons (pair_mk t_a_2_1) .nil))⟩ (.cons ⟨[a_3_0, a_3_1], tup_mk t_a_3 rfl (Nat.le_of_ble_eq_true rfl), (.cons (pair_mk t_a_3_0) (.cons (pair_mk t_a_3_1) .nil))⟩ (.cons ⟨[a_4_0], tup_mk t_a_4 rfl (Nat.le_of_ble_eq_true rfl), (.cons (pair_mk t_a_4_0) .nil)⟩ (.cons ⟨[a_5_0, a_5_1], tup_mk t_a_5 rfl (Nat.le_of_ble_eq_true rfl), (.cons (pair_mk t_a_5_0) (.cons (pair_mk t_a_5_1) .nil))⟩ (.cons ⟨[a_6_0], tup_mk t_a_6 rfl (Nat.le_of_ble_eq_true rfl), (.cons (pair_mk t_a_6_0) .nil)⟩ (.cons ⟨[], tup_mk t_a_7 rfl (Nat.le_of_ble_eq_true rfl), .nil⟩ (.cons ⟨[], tup_mk t_a_8 rfl (Nat.le_of_ble_eq_true rfl), .nil⟩ (.cons ⟨[a_9_0], tup_mk t_a_9 rfl (Nat.le_of_ble_eq_true rfl), (.cons (pair_mk t_a_9_0) .nil)⟩ (.cons ⟨[a_10_0, a_10_1], tup_mk t_a_10 rfl (Nat.le_of_ble_eq_true rfl), (.cons (pair_mk t_a_10_0) (.cons (pair_mk t_a_10_1) .nil))⟩ (.cons ⟨[a_11_0], tup_mk t_a_11 rfl (Nat.le_of_ble_eq_true rfl), (.cons (pair_mk t_a_11_0) .nil)⟩ (.cons ⟨[a_12_0, a_12_1], tup_mk t_a_12 rfl (Nat.le_of_ble_eq_true rfl), (.cons (pair_mk t_a_12_0) (.cons (pair_mk t_a_12_1) .nil))⟩ (.cons ⟨[], tup_mk t_a_13 rfl (Nat.le_of_ble_eq_true rfl), .nil⟩ (.cons ⟨[], tup_mk t_a_14 rfl (Nat.le_of_ble_eq_true rfl), .nil⟩ (.cons ⟨[a_15_0], tup_mk t_a_15 rfl (Nat.le_of_ble_eq_true rfl), (.cons (pair_mk t_a_15_0) .nil)⟩ (.cons ⟨[], tup_mk t_a_16 rfl (Nat.le_of_ble_eq_true rfl), .nil⟩ .nil)))))))))))))))))⟩
theorem with_R {a : Addr} {ep : Nat} {w_0 : Tok} {r_0 : Addr} {o_r_0 : Option Addr} {n_r_0 : Nat} {s_r_0 : Array (Option Value)} {r_0_0 : Addr} {o_r_0_0 : Option Addr} {n_r_0_0 : Nat} {s_r_0_0 : Array (Option Value)} {x_r_0_0 y_r_0_0 : Tok} {r_0_1 : Addr} {o_r_0_1 : Option Addr} {n_r_0_1 : Nat} {s_r_0_1 : Array (Option Value)} {x_r_0_1 y_r_0_1 : Tok} {r_0_2 : Addr} {o_r_0_2 : Option Addr} {n_r_0_2 : Nat} {s_r_0_2 : Array (Option Value)} {x_r_0_2 y_r_0_2 : Tok} {r_0_3 : Addr} {o_r_0_3 : Option Addr} {n_r_0_3 : Nat} {s_r_0_3 : Array (Option Value)} {x_r_0_3 y_r_0_3 : Tok} {w_1 : Tok} {r_1 : Addr} {o_r_1 : Option Addr} {n_r_1 : Nat} {s_r_1 : Array (Option Value)} {r_1_0 : Addr} {o_r_1_0 : Option Addr} {n_r_1_0 : Nat} {s_r_1_0 : Array (Option Value)} {x_r_1_0 y_r_1_0 : Tok} {w_2 : Tok} {r_2 : Addr} {o_r_2 : Option Addr} {n_r_2 : Nat} {s_r_2 : Array (Option Value)} {r_2_0 : Addr} {o_r_2_0 : Option Addr} {n_r_2_0 : Nat} {s_r_2_0 : Array (Option Value)} {x_r_2_0 y_r_2_0 : Tok} (X : K.In h) (G : h.Ns mainGlobals mg) (m : PySem.W.nsIn K mainGlobals "ROW_RANGES" = some (some (.ref a))) (l : K.lookup a = some ⟨.type "dict", none, .dict #[⟨hashInt 0, .int 0 w_0, .ref r_0⟩, ⟨hashInt 1, .int 1 w_1, .ref r_1⟩, ⟨hashInt 13, .int 13 w_2, .ref r_2⟩] ep, #[]⟩) (s : (a == sysModules) = false)  (t_r_0 : K.lookup r_0 = some ⟨.type "tuple", o_r_0, .seq #[.ref r_0_0, .ref r_0_1, .ref r_0_2, .ref r_0_3] n_r_0, s_r_0⟩) (t_r_0_0 : K.lookup r_0_0 = some ⟨.type "tuple", o_r_0_0, .seq #[.int (0) x_r_0_0, .int (9) y_r_0_0] n_r_0_0, s_r_0_0⟩) (t_r_0_1 : K.lookup r_0_1 = some ⟨.type "tuple", o_r_0_1, .seq #[.int (0) x_r_0_1, .int (5) y_r_0_1] n_r_0_1, s_r_0_1⟩) (t_r_0_2 : K.lookup r_0_2 = some ⟨.type "tuple", o_r_0_2, .seq #[.int (0) x_r_0_2, .int (5) y_r_0_2] n_r_0_2, s_r_0_2⟩) (t_r_0_3 : K.lookup r_0_3 = some ⟨.type "tuple", o_r_0_3, .seq #[.int (1) x_r_0_3, .int (1000000) y_r_0_3] n_r_0_3, s_r_0_3⟩) (t_r_1 : K.lookup r_1 = some ⟨.type "tuple", o_r_1, .seq #[.ref r_1_0] n_r_1, s_r_1⟩) (t_r_1_0 : K.lookup r_1_0 = some ⟨.type "tuple", o_r_1_0, .seq #[.int (0) x_r_1_0, .int (9) y_r_1_0] n_r_1_0, s_r_1_0⟩) (t_r_2 : K.lookup r_2 = some ⟨.type "tuple", o_r_2, .seq #[.ref r_2_0] n_r_2, s_r_2⟩) (t_r_2_0 : K.lookup r_2_0 = some ⟨.type "tuple", o_r_2_0, .seq #[.int (0) x_r_2_0, .int (9) y_r_2_0] n_r_2_0, s_r_2_0⟩)
  (cont : ∀ a, mg "ROW_RANGES" = some (.ref a) → (∃ (r0 r1 r2 : Addr), KDict K a [(0, .ref r0), (1, .ref r1), (13, .ref r2)] ∧ KRanges K r0 [(0, 9), (0, 5), (0, 5), (1, 1000000)] ∧ KRanges K r1 [(0, 9)] ∧ KRanges K r2 [(0, 9)]) → Goal) : Goal :=
 cont a (PySem.W.mg_of X G m) ⟨r_0, r_1, r_2, ⟨_, _, ep, l, ⟨rfl, rfl, rfl⟩, rfl, s, (.cons ⟨rfl, ⟨w_0, rfl⟩, rfl⟩ (.cons ⟨rfl, ⟨w_1, rfl⟩, rfl⟩ (.cons ⟨rfl, ⟨w_2, rfl⟩, rfl⟩ .nil))), by show ([0, 1, 13] : List Int).Nodup; decide⟩, ⟨[r_0_0, r_0_1, r_0_2, r_0_3], tup_mk t_r_0 rfl (Nat.le_of_ble_eq_true rfl), (.cons (pair_mk t_r_0_0) (.cons (pair_mk t_r_0_1) (.cons (pair_mk t_r_0_2) (.cons (pair_mk t_r_0_3) .nil))))⟩, ⟨[r_1_0], tup_mk t_r_1 rfl (Nat.le_of_ble_eq_true rfl), (.cons (pair_mk t_r_1_0) .nil)⟩, ⟨[r_2_0], tup_mk t_r_2 rfl (Nat.le_of_ble_eq_true rfl), (.cons (pair_mk t_r_2_0) .nil)⟩⟩
end
set_option maxHeartbeats 0
end UK
set_option Elab.async false
set_option linter.all false
open PySem PySem.W PyProof.Rows L2
/-! Names that are taken here, so that the head lays no second form of the large heaps (its proofs of them grow with the square of their size, and made the compiled text too large). -/
def PySem.W.Fast.tw15224583801204755657 : Nat := 0
def PySem.W.Fast.tw15264410042299996597 : Nat := 0
def PySem.W.Fast.tw11013438784789744590 : Nat := 0
def PySem.W.Fast.tw8671137015484174648 : Nat := 0
def PySem.W.Fast.tw13751837093564859716 : Nat := 0
def PySem.W.Fast.tw16952848407523883831 : Nat := 0
def PySem.W.Fast.tw6233776254009725892 : Nat := 0
def PySem.W.Fast.tw4605200530051017191 : Nat := 0
def PySem.W.Fast.tw17975309069857035122 : Nat := 0
def PySem.W.Fast.tw6762118515423214275 : Nat := 0
def PySem.W.Fast.tw9982649392521321909 : Nat := 0
def PySem.W.Fast.tw6215346661558297563 : Nat := 0
def PySem.W.Fast.tw16139775681046677058 : Nat := 0
def PySem.W.Fast.tw11405053233947765304 : Nat := 0
def PySem.W.Fast.tw6081184675279607398 : Nat := 0
def PySem.W.Fast.tw5275278742993638864 : Nat := 0
def PySem.W.Fast.tw18195475055964283392 : Nat := 0
def PySem.W.Fast.tw616701378427228547 : Nat := 0
def PySem.W.Fast.tw390363695509934625 : Nat := 0
set_option maxRecDepth 100000 in
set_option maxHeartbeats 0 in
theorem PySem.Challenge.cw_unknownkinds_s01_answers_holds : PySem.Challenge.rw_unknownkinds_s01_answers.Holds := by
 w_on; k_headS; (case hw => exact ⟨[.list [.int 7]], by decide +kernel, by decide +kernel⟩)
 k_fillS
 refine L2.walk_specK (r := PySem.Challenge.rw_unknownkinds_s01_answers) (k := 11) (CX := L2.CX0) (ps := ["calls"]) (sp := UK.sp_answers) (by decide +kernel) rfl rfl ⟨rfl, by decide, by decide⟩ (fun w h Y => PySem.W.kIn_of Y) ?F ?S (fun _ _ _ _ z => z)
 case F =>
  intro w mg fa h Y KX G hmg
  refine' UK.with_F "is_pairing" UK.s_is_pairing ["row"] KX G ?m_q0 ?l_q0 ?c_q0 ?k_q0 (fun _ _ _ _ _ _ us hl => match us, hl with | [_], _ => rfl) ?z_q0
  (case m_q0 => k_is); (case l_q0 => k_is); (case c_q0 => k_is); (case k_q0 => k_is)
  intro f_is_pairing d_is_pairing D_is_pairing
  refine' UK.with_F "does_fit" UK.s_does_fit ["left", "row"] KX G ?m_q1 ?l_q1 ?c_q1 ?k_q1 (fun _ _ _ _ _ _ us hl => match us, hl with | [_, _], _ => rfl) ?z_q1
  (case m_q1 => k_is); (case l_q1 => k_is); (case c_q1 => k_is); (case k_q1 => k_is)
  intro f_does_fit d_does_fit D_does_fit
  refine' UK.with_F "count_pairings" UK.s_count_pairings ["left"] KX G ?m_q2 ?l_q2 ?c_q2 ?k_q2 (fun _ _ _ _ _ _ us hl => match us, hl with | [_], _ => rfl) ?z_q2
  (case m_q2 => k_is); (case l_q2 => k_is); (case c_q2 => k_is); (case k_q2 => k_is)
  intro f_count_pairings d_count_pairings D_count_pairings
  refine' UK.with_F "pairings_by_kind" UK.s_pairings_by_kind ["left"] KX G ?m_q3 ?l_q3 ?c_q3 ?k_q3 (fun _ _ _ _ _ _ us hl => match us, hl with | [_], _ => rfl) ?z_q3
  (case m_q3 => k_is); (case l_q3 => k_is); (case c_q3 => k_is); (case k_q3 => k_is)
  intro f_pairings_by_kind d_pairings_by_kind D_pairings_by_kind
  refine' UK.with_F "pairings_of_look" UK.s_pairings_of_look ["kinds", "before", "behind", "how_many"] KX G ?m_q4 ?l_q4 ?c_q4 ?k_q4 (fun _ _ _ _ _ _ us hl => match us, hl with | [_, _, _, _], _ => rfl) ?z_q4
  (case m_q4 => k_is); (case l_q4 => k_is); (case c_q4 => k_is); (case k_q4 => k_is)
  intro f_pairings_of_look d_pairings_of_look D_pairings_of_look
  refine' UK.with_F "possible_kinds" UK.s_possible_kinds ["left"] KX G ?m_q5 ?l_q5 ?c_q5 ?k_q5 (fun _ _ _ _ _ _ us hl => match us, hl with | [_], _ => rfl) ?z_q5
  (case m_q5 => k_is); (case l_q5 => k_is); (case c_q5 => k_is); (case k_q5 => k_is)
  intro f_possible_kinds d_possible_kinds D_possible_kinds
  refine' UK.with_F "kinds_with_some" UK.s_kinds_with_some ["numbers"] KX G ?m_q6 ?l_q6 ?c_q6 ?k_q6 (fun _ _ _ _ _ _ us hl => match us, hl with | [_], _ => rfl) ?z_q6
  (case m_q6 => k_is); (case l_q6 => k_is); (case c_q6 => k_is); (case k_q6 => k_is)
  intro f_kinds_with_some d_kinds_with_some D_kinds_with_some
  refine' UK.with_F "first_pairing" UK.s_first_pairing ["left"] KX G ?m_q7 ?l_q7 ?c_q7 ?k_q7 (fun _ _ _ _ _ _ us hl => match us, hl with | [_], _ => rfl) ?z_q7
  (case m_q7 => k_is); (case l_q7 => k_is); (case c_q7 => k_is); (case k_q7 => k_is)
  intro f_first_pairing d_first_pairing D_first_pairing
  refine' UK.with_F "least_kind" UK.s_least_kind ["kinds", "free", "behind"] KX G ?m_q8 ?l_q8 ?c_q8 ?k_q8 (fun _ _ _ _ _ _ us hl => match us, hl with | [_, _, _], _ => rfl) ?z_q8
  (case m_q8 => k_is); (case l_q8 => k_is); (case c_q8 => k_is); (case k_q8 => k_is)
  intro f_least_kind d_least_kind D_least_kind
  refine' UK.with_F "crowded_looks" UK.s_crowded_looks ["left", "look", "kind"] KX G ?m_q9 ?l_q9 ?c_q9 ?k_q9 (fun _ _ _ _ _ _ us hl => match us, hl with | [_, _, _], _ => rfl) ?z_q9
  (case m_q9 => k_is); (case l_q9 => k_is); (case c_q9 => k_is); (case k_q9 => k_is)
  intro f_crowded_looks d_crowded_looks D_crowded_looks
  refine' UK.with_F "kinds_together" UK.s_kinds_together ["left"] KX G ?m_q10 ?l_q10 ?c_q10 ?k_q10 (fun _ _ _ _ _ _ us hl => match us, hl with | [_], _ => rfl) ?z_q10
  (case m_q10 => k_is); (case l_q10 => k_is); (case c_q10 => k_is); (case k_q10 => k_is)
  intro f_kinds_together d_kinds_together D_kinds_together
  refine' UK.with_F "sizes_of_sets" UK.s_sizes_of_sets ["how_many"] KX G ?m_q11 ?l_q11 ?c_q11 ?k_q11 (fun _ _ _ _ _ _ us hl => match us, hl with | [_], _ => rfl) ?z_q11
  (case m_q11 => k_is); (case l_q11 => k_is); (case c_q11 => k_is); (case k_q11 => k_is)
  intro f_sizes_of_sets d_sizes_of_sets D_sizes_of_sets
  refine' UK.with_F "ways_to_take" UK.s_ways_to_take ["left"] KX G ?m_q12 ?l_q12 ?c_q12 ?k_q12 (fun _ _ _ _ _ _ us hl => match us, hl with | [_], _ => rfl) ?z_q12
  (case m_q12 => k_is); (case l_q12 => k_is); (case c_q12 => k_is); (case k_q12 => k_is)
  intro f_ways_to_take d_ways_to_take D_ways_to_take
  refine' UK.with_F "ways_to_take_behind" UK.s_ways_to_take_behind ["left"] KX G ?m_q13 ?l_q13 ?c_q13 ?k_q13 (fun _ _ _ _ _ _ us hl => match us, hl with | [_], _ => rfl) ?z_q13
  (case m_q13 => k_is); (case l_q13 => k_is); (case c_q13 => k_is); (case k_q13 => k_is)
  intro f_ways_to_take_behind d_ways_to_take_behind D_ways_to_take_behind
  refine' UK.with_F "ways_with_one_more" UK.s_ways_with_one_more ["ways", "kinds"] KX G ?m_q14 ?l_q14 ?c_q14 ?k_q14 (fun _ _ _ _ _ _ us hl => match us, hl with | [_, _], _ => rfl) ?z_q14
  (case m_q14 => k_is); (case l_q14 => k_is); (case c_q14 => k_is); (case k_q14 => k_is)
  intro f_ways_with_one_more d_ways_with_one_more D_ways_with_one_more
  refine' UK.with_F "all_of" UK.s_all_of ["how_many"] KX G ?m_q15 ?l_q15 ?c_q15 ?k_q15 (fun _ _ _ _ _ _ us hl => match us, hl with | [_], _ => rfl) ?z_q15
  (case m_q15 => k_is); (case l_q15 => k_is); (case c_q15 => k_is); (case k_q15 => k_is)
  intro f_all_of d_all_of D_all_of
  refine' UK.with_F "set_of" UK.s_set_of ["member"] KX G ?m_q16 ?l_q16 ?c_q16 ?k_q16 (fun _ _ _ _ _ _ us hl => match us, hl with | [_], _ => rfl) ?z_q16
  (case m_q16 => k_is); (case l_q16 => k_is); (case c_q16 => k_is); (case k_q16 => k_is)
  intro f_set_of d_set_of D_set_of
  refine' UK.with_F "has_member" UK.s_has_member ["these", "member"] KX G ?m_q17 ?l_q17 ?c_q17 ?k_q17 (fun _ _ _ _ _ _ us hl => match us, hl with | [_, _], _ => rfl) ?z_q17
  (case m_q17 => k_is); (case l_q17 => k_is); (case c_q17 => k_is); (case k_q17 => k_is)
  intro f_has_member d_has_member D_has_member
  refine' UK.with_F "members_of" UK.s_members_of ["these", "how_many"] KX G ?m_q18 ?l_q18 ?c_q18 ?k_q18 (fun _ _ _ _ _ _ us hl => match us, hl with | [_, _], _ => rfl) ?z_q18
  (case m_q18 => k_is); (case l_q18 => k_is); (case c_q18 => k_is); (case k_q18 => k_is)
  intro f_members_of d_members_of D_members_of
  refine' UK.with_A "answers" UK.s_answers ["calls"] KX G ?m_q19 ?l_q19 ?c_q19 ?k_q19 (fun _ _ _ _ _ _ us hl => match us, hl with | [_], _ => rfl) ?z_q19
  (case m_q19 => k_is); (case l_q19 => k_is); (case c_q19 => k_is); (case k_q19 => k_is)
  intro f_answers d_answers D_answers hbindA
  refine' UK.with_F "answer_next" UK.s_answer_next ["house", "line"] KX G ?m_q20 ?l_q20 ?c_q20 ?k_q20 (fun _ _ _ _ _ _ us hl => match us, hl with | [_, _], _ => rfl) ?z_q20
  (case m_q20 => k_is); (case l_q20 => k_is); (case c_q20 => k_is); (case k_q20 => k_is)
  intro f_answer_next d_answer_next D_answer_next
  refine' UK.with_F "are_numbers_within" UK.s_are_numbers_within ["numbers", "ranges"] KX G ?m_q21 ?l_q21 ?c_q21 ?k_q21 (fun _ _ _ _ _ _ us hl => match us, hl with | [_, _], _ => rfl) ?z_q21
  (case m_q21 => k_is); (case l_q21 => k_is); (case c_q21 => k_is); (case k_q21 => k_is)
  intro f_are_numbers_within d_are_numbers_within D_are_numbers_within
  refine' UK.with_F "are_rows_within" UK.s_are_rows_within ["rows", "ranges"] KX G ?m_q22 ?l_q22 ?c_q22 ?k_q22 (fun _ _ _ _ _ _ us hl => match us, hl with | [_, _], _ => rfl) ?z_q22
  (case m_q22 => k_is); (case l_q22 => k_is); (case c_q22 => k_is); (case k_q22 => k_is)
  intro f_are_rows_within d_are_rows_within D_are_rows_within
  refine' UK.with_F "is_row_within" UK.s_is_row_within ["row", "limits"] KX G ?m_q23 ?l_q23 ?c_q23 ?k_q23 (fun _ _ _ _ _ _ us hl => match us, hl with | [_, _], _ => rfl) ?z_q23
  (case m_q23 => k_is); (case l_q23 => k_is); (case c_q23 => k_is); (case k_q23 => k_is)
  intro f_is_row_within d_is_row_within D_is_row_within
  refine' UK.with_F "is_within" UK.s_is_within ["number", "limits"] KX G ?m_q24 ?l_q24 ?c_q24 ?k_q24 (fun _ _ _ _ _ _ us hl => match us, hl with | [_, _], _ => rfl) ?z_q24
  (case m_q24 => k_is); (case l_q24 => k_is); (case c_q24 => k_is); (case k_q24 => k_is)
  intro f_is_within d_is_within D_is_within
  refine' UK.with_F "answer_call" UK.s_answer_call ["house", "place", "numbers", "rows"] KX G ?m_q25 ?l_q25 ?c_q25 ?k_q25 (fun _ _ _ _ _ _ us hl => match us, hl with | [_, _, _, _], _ => rfl) ?z_q25
  (case m_q25 => k_is); (case l_q25 => k_is); (case c_q25 => k_is); (case k_q25 => k_is)
  intro f_answer_call d_answer_call D_answer_call
  refine' UK.with_F "answer_question" UK.s_answer_question ["house", "place", "numbers", "rows"] KX G ?m_q26 ?l_q26 ?c_q26 ?k_q26 (fun _ _ _ _ _ _ us hl => match us, hl with | [_, _, _, _], _ => rfl) ?z_q26
  (case m_q26 => k_is); (case l_q26 => k_is); (case c_q26 => k_is); (case k_q26 => k_is)
  intro f_answer_question d_answer_question D_answer_question
  refine' UK.with_F "open_house" UK.s_open_house ["house", "truth", "look_sorts", "kind_sorts", "prices"] KX G ?m_q27 ?l_q27 ?c_q27 ?k_q27 (fun _ _ _ _ _ _ us hl => match us, hl with | [_, _, _, _, _], _ => rfl) ?z_q27
  (case m_q27 => k_is); (case l_q27 => k_is); (case c_q27 => k_is); (case k_q27 => k_is)
  intro f_open_house d_open_house D_open_house
  refine' UK.with_F "kinds_of_sort" UK.s_kinds_of_sort ["sort", "kind_sorts"] KX G ?m_q28 ?l_q28 ?c_q28 ?k_q28 (fun _ _ _ _ _ _ us hl => match us, hl with | [_, _], _ => rfl) ?z_q28
  (case m_q28 => k_is); (case l_q28 => k_is); (case c_q28 => k_is); (case k_q28 => k_is)
  intro f_kinds_of_sort d_kinds_of_sort D_kinds_of_sort
  refine' UK.with_F "tell_outcomes" UK.s_tell_outcomes ["house", "situation", "row"] KX G ?m_q29 ?l_q29 ?c_q29 ?k_q29 (fun _ _ _ _ _ _ us hl => match us, hl with | [_, _, _], _ => rfl) ?z_q29
  (case m_q29 => k_is); (case l_q29 => k_is); (case c_q29 => k_is); (case k_q29 => k_is)
  intro f_tell_outcomes d_tell_outcomes D_tell_outcomes
  refine' UK.with_F "use_look" UK.s_use_look ["house", "look", "situation"] KX G ?m_q30 ?l_q30 ?c_q30 ?k_q30 (fun _ _ _ _ _ _ us hl => match us, hl with | [_, _, _], _ => rfl) ?z_q30
  (case m_q30 => k_is); (case l_q30 => k_is); (case c_q30 => k_is); (case k_q30 => k_is)
  intro f_use_look d_use_look D_use_look
  refine' UK.with_F "offer_look" UK.s_offer_look ["house", "look", "dear"] KX G ?m_q31 ?l_q31 ?c_q31 ?k_q31 (fun _ _ _ _ _ _ us hl => match us, hl with | [_, _, _], _ => rfl) ?z_q31
  (case m_q31 => k_is); (case l_q31 => k_is); (case c_q31 => k_is); (case k_q31 => k_is)
  intro f_offer_look d_offer_look D_offer_look
  refine' UK.with_F "may_be_offered" UK.s_may_be_offered ["price", "offered"] KX G ?m_q32 ?l_q32 ?c_q32 ?k_q32 (fun _ _ _ _ _ _ us hl => match us, hl with | [_, _], _ => rfl) ?z_q32
  (case m_q32 => k_is); (case l_q32 => k_is); (case c_q32 => k_is); (case k_q32 => k_is)
  intro f_may_be_offered d_may_be_offered D_may_be_offered
  refine' UK.with_F "dearer_price" UK.s_dearer_price ["price"] KX G ?m_q33 ?l_q33 ?c_q33 ?k_q33 (fun _ _ _ _ _ _ us hl => match us, hl with | [_], _ => rfl) ?z_q33
  (case m_q33 => k_is); (case l_q33 => k_is); (case c_q33 => k_is); (case k_q33 => k_is)
  intro f_dearer_price d_dearer_price D_dearer_price
  refine' UK.with_F "tell_kind" UK.s_tell_kind ["house", "look"] KX G ?m_q34 ?l_q34 ?c_q34 ?k_q34 (fun _ _ _ _ _ _ us hl => match us, hl with | [_, _], _ => rfl) ?z_q34
  (case m_q34 => k_is); (case l_q34 => k_is); (case c_q34 => k_is); (case k_q34 => k_is)
  intro f_tell_kind d_tell_kind D_tell_kind
  refine' UK.with_F "ask_kind" UK.s_ask_kind ["house", "look", "kind"] KX G ?m_q35 ?l_q35 ?c_q35 ?k_q35 (fun _ _ _ _ _ _ us hl => match us, hl with | [_, _, _], _ => rfl) ?z_q35
  (case m_q35 => k_is); (case l_q35 => k_is); (case c_q35 => k_is); (case k_q35 => k_is)
  intro f_ask_kind d_ask_kind D_ask_kind
  refine' UK.with_F "answer_possible" UK.s_answer_possible ["house", "look"] KX G ?m_q36 ?l_q36 ?c_q36 ?k_q36 (fun _ _ _ _ _ _ us hl => match us, hl with | [_, _], _ => rfl) ?z_q36
  (case m_q36 => k_is); (case l_q36 => k_is); (case c_q36 => k_is); (case k_q36 => k_is)
  intro f_answer_possible d_answer_possible D_answer_possible
  refine' UK.with_F "answer_certain" UK.s_answer_certain ["house"] KX G ?m_q37 ?l_q37 ?c_q37 ?k_q37 (fun _ _ _ _ _ _ us hl => match us, hl with | [_], _ => rfl) ?z_q37
  (case m_q37 => k_is); (case l_q37 => k_is); (case c_q37 => k_is); (case k_q37 => k_is)
  intro f_answer_certain d_answer_certain D_answer_certain
  refine' UK.with_F "answer_count" UK.s_answer_count ["house"] KX G ?m_q38 ?l_q38 ?c_q38 ?k_q38 (fun _ _ _ _ _ _ us hl => match us, hl with | [_], _ => rfl) ?z_q38
  (case m_q38 => k_is); (case l_q38 => k_is); (case c_q38 => k_is); (case k_q38 => k_is)
  intro f_answer_count d_answer_count D_answer_count
  refine' UK.with_F "answer_left" UK.s_answer_left ["house", "look"] KX G ?m_q39 ?l_q39 ?c_q39 ?k_q39 (fun _ _ _ _ _ _ us hl => match us, hl with | [_, _], _ => rfl) ?z_q39
  (case m_q39 => k_is); (case l_q39 => k_is); (case c_q39 => k_is); (case k_q39 => k_is)
  intro f_answer_left d_answer_left D_answer_left
  refine' UK.with_F "answer_why" UK.s_answer_why ["house", "look", "kind"] KX G ?m_q40 ?l_q40 ?c_q40 ?k_q40 (fun _ _ _ _ _ _ us hl => match us, hl with | [_, _, _], _ => rfl) ?z_q40
  (case m_q40 => k_is); (case l_q40 => k_is); (case c_q40 => k_is); (case k_q40 => k_is)
  intro f_answer_why d_answer_why D_answer_why
  refine' UK.with_F "answer_try" UK.s_answer_try ["house", "situation"] KX G ?m_q41 ?l_q41 ?c_q41 ?k_q41 (fun _ _ _ _ _ _ us hl => match us, hl with | [_, _], _ => rfl) ?z_q41
  (case m_q41 => k_is); (case l_q41 => k_is); (case c_q41 => k_is); (case k_q41 => k_is)
  intro f_answer_try d_answer_try D_answer_try
  refine' UK.with_F "most_of_one_outcome" UK.s_most_of_one_outcome ["numbers", "row"] KX G ?m_q42 ?l_q42 ?c_q42 ?k_q42 (fun _ _ _ _ _ _ us hl => match us, hl with | [_, _], _ => rfl) ?z_q42
  (case m_q42 => k_is); (case l_q42 => k_is); (case c_q42 => k_is); (case k_q42 => k_is)
  intro f_most_of_one_outcome d_most_of_one_outcome D_most_of_one_outcome
  refine' UK.with_F "answer_odds" UK.s_answer_odds ["house", "look", "kind"] KX G ?m_q43 ?l_q43 ?c_q43 ?k_q43 (fun _ _ _ _ _ _ us hl => match us, hl with | [_, _, _], _ => rfl) ?z_q43
  (case m_q43 => k_is); (case l_q43 => k_is); (case c_q43 => k_is); (case k_q43 => k_is)
  intro f_answer_odds d_answer_odds D_answer_odds
  refine' UK.with_F "lowest_terms" UK.s_lowest_terms ["part", "whole"] KX G ?m_q44 ?l_q44 ?c_q44 ?k_q44 (fun _ _ _ _ _ _ us hl => match us, hl with | [_, _], _ => rfl) ?z_q44
  (case m_q44 => k_is); (case l_q44 => k_is); (case c_q44 => k_is); (case k_q44 => k_is)
  intro f_lowest_terms d_lowest_terms D_lowest_terms
  refine' UK.with_F "answer_fits" UK.s_answer_fits ["house", "row"] KX G ?m_q45 ?l_q45 ?c_q45 ?k_q45 (fun _ _ _ _ _ _ us hl => match us, hl with | [_, _], _ => rfl) ?z_q45
  (case m_q45 => k_is); (case l_q45 => k_is); (case c_q45 => k_is); (case k_q45 => k_is)
  intro f_answer_fits d_answer_fits D_answer_fits
  refine' UK.with_F "answer_first" UK.s_answer_first ["house"] KX G ?m_q46 ?l_q46 ?c_q46 ?k_q46 (fun _ _ _ _ _ _ us hl => match us, hl with | [_], _ => rfl) ?z_q46
  (case m_q46 => k_is); (case l_q46 => k_is); (case c_q46 => k_is); (case k_q46 => k_is)
  intro f_answer_first d_answer_first D_answer_first
  refine' UK.with_F "answer_worth" UK.s_answer_worth ["house", "look"] KX G ?m_q47 ?l_q47 ?c_q47 ?k_q47 (fun _ _ _ _ _ _ us hl => match us, hl with | [_, _], _ => rfl) ?z_q47
  (case m_q47 => k_is); (case l_q47 => k_is); (case c_q47 => k_is); (case k_q47 => k_is)
  intro f_answer_worth d_answer_worth D_answer_worth
  refine' UK.with_F "answer_state" UK.s_answer_state ["house"] KX G ?m_q48 ?l_q48 ?c_q48 ?k_q48 (fun _ _ _ _ _ _ us hl => match us, hl with | [_], _ => rfl) ?z_q48
  (case m_q48 => k_is); (case l_q48 => k_is); (case c_q48 => k_is); (case k_q48 => k_is)
  intro f_answer_state d_answer_state D_answer_state
  refine' UK.with_Line KX G ?aC_q49 ?pg_q49 ?hd_q49 ?po_q49 ?sa_q49 ?mk_q49 ?kc_q49 ?n_calls_q49 ?n_place_q49 ?m0_q49 ?i0_q49 ?l0_q49 ?c0_q49 ?k0_q49 ?m1_q49 ?i1_q49 ?l1_q49 ?c1_q49 ?k1_q49 ?m2_q49 ?i2_q49 ?l2_q49 ?c2_q49 ?k2_q49 ?m3_q49 ?i3_q49 ?l3_q49 ?c3_q49 ?k3_q49 ?m4_q49 ?i4_q49 ?l4_q49 ?c4_q49 ?k4_q49 ?z_q49
  (case aC_q49 => k_is); (case pg_q49 => k_is); (case hd_q49 => k_is); (case po_q49 => k_is); (case sa_q49 => k_is); (case mk_q49 => k_is); (case kc_q49 => k_is); (case n_calls_q49 => k_is); (case n_place_q49 => k_is); (case m0_q49 => k_is); (case i0_q49 => k_is); (case l0_q49 => k_is); (case c0_q49 => k_is); (case k0_q49 => k_is); (case m1_q49 => k_is); (case i1_q49 => k_is); (case l1_q49 => k_is); (case c1_q49 => k_is); (case k1_q49 => k_is); (case m2_q49 => k_is); (case i2_q49 => k_is); (case l2_q49 => k_is); (case c2_q49 => k_is); (case k2_q49 => k_is); (case m3_q49 => k_is); (case i3_q49 => k_is); (case l3_q49 => k_is); (case c3_q49 => k_is); (case k3_q49 => k_is); (case m4_q49 => k_is); (case i4_q49 => k_is); (case l4_q49 => k_is); (case c4_q49 => k_is); (case k4_q49 => k_is)
  intro C_Line f_Line_init f_Line_is_over f_Line_take_number f_Line_take_numbers f_Line_take_rows d_Line_init d_Line_is_over d_Line_take_number d_Line_take_numbers d_Line_take_rows cl_Line c_Line mk_Line n_Line_calls n_Line_place D_Line_init D_Line_is_over D_Line_take_number D_Line_take_numbers D_Line_take_rows
  refine' UK.with_House KX G ?aC_q50 ?pg_q50 ?hd_q50 ?po_q50 ?sa_q50 ?mk_q50 ?kc_q50 ?n_truth_q50 ?n_look_sorts_q50 ?n_kind_sorts_q50 ?n_prices_q50 ?n_outcomes_q50 ?n_left_q50 ?n_shown_q50 ?m0_q50 ?i0_q50 ?l0_q50 ?c0_q50 ?k0_q50 ?m1_q50 ?i1_q50 ?l1_q50 ?c1_q50 ?k1_q50 ?m2_q50 ?i2_q50 ?l2_q50 ?c2_q50 ?k2_q50 ?m3_q50 ?i3_q50 ?l3_q50 ?c3_q50 ?k3_q50 ?z_q50
  (case aC_q50 => k_is); (case pg_q50 => k_is); (case hd_q50 => k_is); (case po_q50 => k_is); (case sa_q50 => k_is); (case mk_q50 => k_is); (case kc_q50 => k_is); (case n_truth_q50 => k_is); (case n_look_sorts_q50 => k_is); (case n_kind_sorts_q50 => k_is); (case n_prices_q50 => k_is); (case n_outcomes_q50 => k_is); (case n_left_q50 => k_is); (case n_shown_q50 => k_is); (case m0_q50 => k_is); (case i0_q50 => k_is); (case l0_q50 => k_is); (case c0_q50 => k_is); (case k0_q50 => k_is); (case m1_q50 => k_is); (case i1_q50 => k_is); (case l1_q50 => k_is); (case c1_q50 => k_is); (case k1_q50 => k_is); (case m2_q50 => k_is); (case i2_q50 => k_is); (case l2_q50 => k_is); (case c2_q50 => k_is); (case k2_q50 => k_is); (case m3_q50 => k_is); (case i3_q50 => k_is); (case l3_q50 => k_is); (case c3_q50 => k_is); (case k3_q50 => k_is)
  intro C_House f_House_init f_House_is_open f_House_has f_House_show d_House_init d_House_is_open d_House_has d_House_show cl_House c_House mk_House n_House_truth n_House_look_sorts n_House_kind_sorts n_House_prices n_House_outcomes n_House_left n_House_shown D_House_init D_House_is_open D_House_has D_House_show
  refine' UK.with_V "OUT_OF_RANGE" KX G ?m_q51 ?z_q51
  (case m_q51 => k_is)
  intro g0_OUT_OF_RANGE
  have g_OUT_OF_RANGE : ∃ t, mg "OUT_OF_RANGE" = some (.int (-1) t) := ⟨_, g0_OUT_OF_RANGE⟩
  refine' UK.with_V "NOT_OPEN" KX G ?m_q52 ?z_q52
  (case m_q52 => k_is)
  intro g0_NOT_OPEN
  have g_NOT_OPEN : ∃ t, mg "NOT_OPEN" = some (.int (-2) t) := ⟨_, g0_NOT_OPEN⟩
  refine' UK.with_V "OPEN_ALREADY" KX G ?m_q53 ?z_q53
  (case m_q53 => k_is)
  intro g0_OPEN_ALREADY
  have g_OPEN_ALREADY : ∃ t, mg "OPEN_ALREADY" = some (.int (-3) t) := ⟨_, g0_OPEN_ALREADY⟩
  refine' UK.with_V "WRONG_ROWS" KX G ?m_q54 ?z_q54
  (case m_q54 => k_is)
  intro g0_WRONG_ROWS
  have g_WRONG_ROWS : ∃ t, mg "WRONG_ROWS" = some (.int (-4) t) := ⟨_, g0_WRONG_ROWS⟩
  refine' UK.with_V "WRONG_SITUATION" KX G ?m_q55 ?z_q55
  (case m_q55 => k_is)
  intro g0_WRONG_SITUATION
  have g_WRONG_SITUATION : ∃ t, mg "WRONG_SITUATION" = some (.int (-5) t) := ⟨_, g0_WRONG_SITUATION⟩
  refine' UK.with_V "NO_SUCH" KX G ?m_q56 ?z_q56
  (case m_q56 => k_is)
  intro g0_NO_SUCH
  have g_NO_SUCH : ∃ t, mg "NO_SUCH" = some (.int (-6) t) := ⟨_, g0_NO_SUCH⟩
  refine' UK.with_V "LONGEST_ROW" KX G ?m_q57 ?z_q57
  (case m_q57 => k_is)
  intro g0_LONGEST_ROW
  have g_LONGEST_ROW : ∃ t, mg "LONGEST_ROW" = some (.int (10) t) := ⟨_, g0_LONGEST_ROW⟩
  have b_len : mg "len" = none := by
   refine' PySem.W.mg_none_of KX G ?m
   (case m => k_is)
  have b_range : mg "range" = none := by
   refine' PySem.W.mg_none_of KX G ?m
   (case m => k_is)
  have b_zip : mg "zip" = none := by
   refine' PySem.W.mg_none_of KX G ?m
   (case m => k_is)
  have b_enumerate : mg "enumerate" = none := by
   refine' PySem.W.mg_none_of KX G ?m
   (case m => k_is)
  have b_all : mg "all" = none := by
   refine' PySem.W.mg_none_of KX G ?m
   (case m => k_is)
  have b_sorted : mg "sorted" = none := by
   refine' PySem.W.mg_none_of KX G ?m
   (case m => k_is)
  have b_list : mg "list" = none := by
   refine' PySem.W.mg_none_of KX G ?m
   (case m => k_is)
  have b_reversed : mg "reversed" = none := by
   refine' PySem.W.mg_none_of KX G ?m
   (case m => k_is)
  have b_min : mg "min" = none := by
   refine' PySem.W.mg_none_of KX G ?m
   (case m => k_is)
  have b_max : mg "max" = none := by
   refine' PySem.W.mg_none_of KX G ?m
   (case m => k_is)
  have b_sum : mg "sum" = none := by
   refine' PySem.W.mg_none_of KX G ?m
   (case m => k_is)
  refine' UK.with_N KX G ?m_q69 ?t_a_q69 ?t_a_0_q69 ?t_a_1_q69 ?t_a_1_0_q69 ?t_a_2_q69 ?t_a_2_0_q69 ?t_a_2_1_q69 ?t_a_3_q69 ?t_a_3_0_q69 ?t_a_3_1_q69 ?t_a_4_q69 ?t_a_4_0_q69 ?t_a_5_q69 ?t_a_5_0_q69 ?t_a_5_1_q69 ?t_a_6_q69 ?t_a_6_0_q69 ?t_a_7_q69 ?t_a_8_q69 ?t_a_9_q69 ?t_a_9_0_q69 ?t_a_10_q69 ?t_a_10_0_q69 ?t_a_10_1_q69 ?t_a_11_q69 ?t_a_11_0_q69 ?t_a_12_q69 ?t_a_12_0_q69 ?t_a_12_1_q69 ?t_a_13_q69 ?t_a_14_q69 ?t_a_15_q69 ?t_a_15_0_q69 ?t_a_16_q69 ?z_q69
  (case m_q69 => k_is); (case t_a_q69 => k_is); (case t_a_0_q69 => k_is); (case t_a_1_q69 => k_is); (case t_a_1_0_q69 => k_is); (case t_a_2_q69 => k_is); (case t_a_2_0_q69 => k_is); (case t_a_2_1_q69 => k_is); (case t_a_3_q69 => k_is); (case t_a_3_0_q69 => k_is); (case t_a_3_1_q69 => k_is); (case t_a_4_q69 => k_is); (case t_a_4_0_q69 => k_is); (case t_a_5_q69 => k_is); (case t_a_5_0_q69 => k_is); (case t_a_5_1_q69 => k_is); (case t_a_6_q69 => k_is); (case t_a_6_0_q69 => k_is); (case t_a_7_q69 => k_is); (case t_a_8_q69 => k_is); (case t_a_9_q69 => k_is); (case t_a_9_0_q69 => k_is); (case t_a_10_q69 => k_is); (case t_a_10_0_q69 => k_is); (case t_a_10_1_q69 => k_is); (case t_a_11_q69 => k_is); (case t_a_11_0_q69 => k_is); (case t_a_12_q69 => k_is); (case t_a_12_0_q69 => k_is); (case t_a_12_1_q69 => k_is); (case t_a_13_q69 => k_is); (case t_a_14_q69 => k_is); (case t_a_15_q69 => k_is); (case t_a_15_0_q69 => k_is); (case t_a_16_q69 => k_is)
  intro a_NUMBER_RANGES g_NUMBER_RANGES t_NUMBER_RANGES
  refine' UK.with_R KX G ?m_q70 ?l_q70 ?s_q70 ?t_r_0_q70 ?t_r_0_0_q70 ?t_r_0_1_q70 ?t_r_0_2_q70 ?t_r_0_3_q70 ?t_r_1_q70 ?t_r_1_0_q70 ?t_r_2_q70 ?t_r_2_0_q70 ?z_q70
  (case m_q70 => k_is); (case l_q70 => k_is); (case t_r_0_q70 => k_is); (case t_r_0_0_q70 => k_is); (case t_r_0_1_q70 => k_is); (case t_r_0_2_q70 => k_is); (case t_r_0_3_q70 => k_is); (case t_r_1_q70 => k_is); (case t_r_1_0_q70 => k_is); (case t_r_2_q70 => k_is); (case t_r_2_0_q70 => k_is); (case s_q70 => decide)
  intro a_ROW_RANGES g_ROW_RANGES t_ROW_RANGES
  obtain rfl : f_answers = fa := by
   have e := D_answers.m.symm.trans hmg
   injection e with e
   injection e
  let ads : UK.Ads := { f_is_pairing := f_is_pairing, d_is_pairing := d_is_pairing, f_does_fit := f_does_fit, d_does_fit := d_does_fit, f_count_pairings := f_count_pairings, d_count_pairings := d_count_pairings, f_pairings_by_kind := f_pairings_by_kind, d_pairings_by_kind := d_pairings_by_kind, f_pairings_of_look := f_pairings_of_look, d_pairings_of_look := d_pairings_of_look, f_possible_kinds := f_possible_kinds, d_possible_kinds := d_possible_kinds, f_kinds_with_some := f_kinds_with_some, d_kinds_with_some := d_kinds_with_some, f_first_pairing := f_first_pairing, d_first_pairing := d_first_pairing, f_least_kind := f_least_kind, d_least_kind := d_least_kind, f_crowded_looks := f_crowded_looks, d_crowded_looks := d_crowded_looks, f_kinds_together := f_kinds_together, d_kinds_together := d_kinds_together, f_sizes_of_sets := f_sizes_of_sets, d_sizes_of_sets := d_sizes_of_sets, f_ways_to_take := f_ways_to_take, d_ways_to_take := d_ways_to_take, f_ways_to_take_behind := f_ways_to_take_behind, d_ways_to_take_behind := d_ways_to_take_behind, f_ways_with_one_more := f_ways_with_one_more, d_ways_with_one_more := d_ways_with_one_more, f_all_of := f_all_of, d_all_of := d_all_of, f_set_of := f_set_of, d_set_of := d_set_of, f_has_member := f_has_member, d_has_member := d_has_member, f_members_of := f_members_of, d_members_of := d_members_of, f_Line_init := f_Line_init, d_Line_init := d_Line_init, f_Line_is_over := f_Line_is_over, d_Line_is_over := d_Line_is_over, f_Line_take_number := f_Line_take_number, d_Line_take_number := d_Line_take_number, f_Line_take_numbers := f_Line_take_numbers, d_Line_take_numbers := d_Line_take_numbers, f_Line_take_rows := f_Line_take_rows, d_Line_take_rows := d_Line_take_rows, f_House_init := f_House_init, d_House_init := d_House_init, f_House_is_open := f_House_is_open, d_House_is_open := d_House_is_open, f_House_has := f_House_has, d_House_has := d_House_has, f_House_show := f_House_show, d_House_show := d_House_show, f_answers := f_answers, d_answers := d_answers, f_answer_next := f_answer_next, d_answer_next := d_answer_next, f_are_numbers_within := f_are_numbers_within, d_are_numbers_within := d_are_numbers_within, f_are_rows_within := f_are_rows_within, d_are_rows_within := d_are_rows_within, f_is_row_within := f_is_row_within, d_is_row_within := d_is_row_within, f_is_within := f_is_within, d_is_within := d_is_within, f_answer_call := f_answer_call, d_answer_call := d_answer_call, f_answer_question := f_answer_question, d_answer_question := d_answer_question, f_open_house := f_open_house, d_open_house := d_open_house, f_kinds_of_sort := f_kinds_of_sort, d_kinds_of_sort := d_kinds_of_sort, f_tell_outcomes := f_tell_outcomes, d_tell_outcomes := d_tell_outcomes, f_use_look := f_use_look, d_use_look := d_use_look, f_offer_look := f_offer_look, d_offer_look := d_offer_look, f_may_be_offered := f_may_be_offered, d_may_be_offered := d_may_be_offered, f_dearer_price := f_dearer_price, d_dearer_price := d_dearer_price, f_tell_kind := f_tell_kind, d_tell_kind := d_tell_kind, f_ask_kind := f_ask_kind, d_ask_kind := d_ask_kind, f_answer_possible := f_answer_possible, d_answer_possible := d_answer_possible, f_answer_certain := f_answer_certain, d_answer_certain := d_answer_certain, f_answer_count := f_answer_count, d_answer_count := d_answer_count, f_answer_left := f_answer_left, d_answer_left := d_answer_left, f_answer_why := f_answer_why, d_answer_why := d_answer_why, f_answer_try := f_answer_try, d_answer_try := d_answer_try, f_most_of_one_outcome := f_most_of_one_outcome, d_most_of_one_outcome := d_most_of_one_outcome, f_answer_odds := f_answer_odds, d_answer_odds := d_answer_odds, f_lowest_terms := f_lowest_terms, d_lowest_terms := d_lowest_terms, f_answer_fits := f_answer_fits, d_answer_fits := d_answer_fits, f_answer_first := f_answer_first, d_answer_first := d_answer_first, f_answer_worth := f_answer_worth, d_answer_worth := d_answer_worth, f_answer_state := f_answer_state, d_answer_state := d_answer_state, C_Line := C_Line, C_House := C_House, a_NUMBER_RANGES := a_NUMBER_RANGES, a_ROW_RANGES := a_ROW_RANGES }
  have TT : UK.Txt _ mg ads := { cl_Line := cl_Line, mk_Line := mk_Line, c_Line := c_Line, n_Line_calls := n_Line_calls, n_Line_place := n_Line_place, cl_House := cl_House, mk_House := mk_House, c_House := c_House, n_House_truth := n_House_truth, n_House_look_sorts := n_House_look_sorts, n_House_kind_sorts := n_House_kind_sorts, n_House_prices := n_House_prices, n_House_outcomes := n_House_outcomes, n_House_left := n_House_left, n_House_shown := n_House_shown, is_pairing := D_is_pairing, does_fit := D_does_fit, count_pairings := D_count_pairings, pairings_by_kind := D_pairings_by_kind, pairings_of_look := D_pairings_of_look, possible_kinds := D_possible_kinds, kinds_with_some := D_kinds_with_some, first_pairing := D_first_pairing, least_kind := D_least_kind, crowded_looks := D_crowded_looks, kinds_together := D_kinds_together, sizes_of_sets := D_sizes_of_sets, ways_to_take := D_ways_to_take, ways_to_take_behind := D_ways_to_take_behind, ways_with_one_more := D_ways_with_one_more, all_of := D_all_of, set_of := D_set_of, has_member := D_has_member, members_of := D_members_of, Line_init := D_Line_init, Line_is_over := D_Line_is_over, Line_take_number := D_Line_take_number, Line_take_numbers := D_Line_take_numbers, Line_take_rows := D_Line_take_rows, House_init := D_House_init, House_is_open := D_House_is_open, House_has := D_House_has, House_show := D_House_show, answers := D_answers, answer_next := D_answer_next, are_numbers_within := D_are_numbers_within, are_rows_within := D_are_rows_within, is_row_within := D_is_row_within, is_within := D_is_within, answer_call := D_answer_call, answer_question := D_answer_question, open_house := D_open_house, kinds_of_sort := D_kinds_of_sort, tell_outcomes := D_tell_outcomes, use_look := D_use_look, offer_look := D_offer_look, may_be_offered := D_may_be_offered, dearer_price := D_dearer_price, tell_kind := D_tell_kind, ask_kind := D_ask_kind, answer_possible := D_answer_possible, answer_certain := D_answer_certain, answer_count := D_answer_count, answer_left := D_answer_left, answer_why := D_answer_why, answer_try := D_answer_try, most_of_one_outcome := D_most_of_one_outcome, answer_odds := D_answer_odds, lowest_terms := D_lowest_terms, answer_fits := D_answer_fits, answer_first := D_answer_first, answer_worth := D_answer_worth, answer_state := D_answer_state, g_OUT_OF_RANGE := g_OUT_OF_RANGE, g_NOT_OPEN := g_NOT_OPEN, g_OPEN_ALREADY := g_OPEN_ALREADY, g_WRONG_ROWS := g_WRONG_ROWS, g_WRONG_SITUATION := g_WRONG_SITUATION, g_NO_SUCH := g_NO_SUCH, g_LONGEST_ROW := g_LONGEST_ROW, g_NUMBER_RANGES := g_NUMBER_RANGES, g_ROW_RANGES := g_ROW_RANGES, b_len := b_len, b_range := b_range, b_zip := b_zip, b_enumerate := b_enumerate, b_all := b_all, b_sorted := b_sorted, b_list := b_list, b_reversed := b_reversed, b_min := b_min, b_max := b_max, b_sum := b_sum, t_NUMBER_RANGES := t_NUMBER_RANGES, t_ROW_RANGES := t_ROW_RANGES }
  exact ⟨d_answers, hbindA, fun base _ _ => UK.ok_answers (a := ads) TT⟩
 case S =>
  intro K H xs b hO hwi hask hx
  cases hx with
  | cons h1 h2 =>
   cases h2
   cases h1 with
   | lst hs ha =>
    have e := L2.ints_dw b.1 _ ha
    subst e
    exact ⟨_, b.1, rfl, hs, hask, fun H' p hp => .lst (L2.SqL.of hp) (L2.dw_ints _)⟩
#print axioms PySem.Challenge.cw_unknownkinds_s01_answers_holds

