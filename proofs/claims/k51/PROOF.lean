import PyProof.Rows.All
import Wide.All
import OpenK.AllK
import Wide.FinOn
import Lean
import PyProof.EqAt
import PyProof.EqKinds
import PyProof.TupleCall
import PySem.Challenge.RW_relayholds_k51_tables_told
set_option genSizeOfSpec false
set_option genSizeOf false
noncomputable section
section
set_option Elab.async false
set_option linter.all false
set_option maxRecDepth 100000
namespace L2
open PySem PySem.Spec PyProof.Rows
abbrev Key := Sum Int Str
noncomputable def keyIs : Key → Value → Bool
 | .inl k, v => Value.isInt k v
 | .inr x, v => Value.isStrOf x v
noncomputable def keyH (w : World) : Key → Int
 | .inl k => hashInt k
 | .inr x => hashStr w x
theorem keyIs_shape : ∀ {k : Key} {v : Value}, keyIs k v = true → (∃ i t, k = Sum.inl i ∧ v = Value.int i t) ∨ (∃ x t, k = Sum.inr x ∧ v = Value.str x t)
 | .inl i, v, h => by
  obtain ⟨t, e⟩ := Value.isInt_shape (k := i) (v := v) h
  exact .inl ⟨i, t, rfl, e⟩
 | .inr x, v, h => by
  obtain ⟨t, e⟩ := Value.isStrOf_shape (x := x) (v := v) h
  exact .inr ⟨x, t, rfl, e⟩
theorem keyIs_int (i : Int) (t : Tok) : keyIs (.inl i) (.int i t) = true := by simp [keyIs, Value.isInt]
theorem keyIs_str (x : Str) (t : Tok) : keyIs (.inr x) (.str x t) = true := by simp [keyIs, Value.isStrOf]
theorem key_ll (a b : Int) : decide ((Sum.inl a : Key) = Sum.inl b) = (a == b) := by
 by_cases e : a = b
 ·subst e; simp
 ·have h : ¬ (Sum.inl a : Key) = Sum.inl b := fun q => e (Sum.inl.inj q)
  rw [decide_eq_false h]
  exact (beq_eq_false_iff_ne.mpr e).symm
theorem key_rr (a b : Str) : decide ((Sum.inr a : Key) = Sum.inr b) = decide (a = b) := by
 by_cases e : a = b
 ·subst e; simp
 ·have h : ¬ (Sum.inr a : Key) = Sum.inr b := fun q => e (Sum.inr.inj q)
  rw [decide_eq_false h, decide_eq_false e]
theorem key_lr (a : Int) (b : Str) : decide ((Sum.inl a : Key) = Sum.inr b) = false := decide_eq_false (fun q => nomatch q)
theorem key_rl (a : Str) (b : Int) : decide ((Sum.inr a : Key) = Sum.inl b) = false := decide_eq_false (fun q => nomatch q)
noncomputable def mixKind (prog : Program) (w : World) : PySem.KeyKind prog w Key where
 is := keyIs
 hash := keyH w
 inj := fun v a b ha hb => by
  rcases keyIs_shape ha with ⟨i, t, rfl, rfl⟩ | ⟨x, t, rfl, rfl⟩
  ·rcases keyIs_shape hb with ⟨j, u, rfl, e⟩ | ⟨y, u, rfl, e⟩
   ·injection e with e1 _; rw [e1]
   ·exact nomatch e
  ·rcases keyIs_shape hb with ⟨j, u, rfl, e⟩ | ⟨y, u, rfl, e⟩
   ·exact nomatch e
   ·injection e with e1 _; rw [e1]
 byValue := fun k v h => by
  rcases keyIs_shape h with ⟨i, t, rfl, rfl⟩ | ⟨x, t, rfl, rfl⟩ <;> rfl
 pyHash := fun hv h => by
  rcases keyIs_shape hv with ⟨i, t, rfl, rfl⟩ | ⟨x, t, rfl, rfl⟩
  ·exact wpAny_pyHash_int h
  ·exact wpAny_pyHash_str h
 eqBool := fun hu hv h => by
  rcases keyIs_shape hu with ⟨i, t, rfl, rfl⟩ | ⟨x, t, rfl, rfl⟩
  ·rcases keyIs_shape hv with ⟨j, u, rfl, rfl⟩ | ⟨y, u, rfl, rfl⟩
   ·rw [key_ll] at h; exact wpAny_eqBool_int h
   ·rw [key_lr] at h; exact SeqAt.EqAt.int_str i t y u _ _ _ _ h
  ·rcases keyIs_shape hv with ⟨j, u, rfl, rfl⟩ | ⟨y, u, rfl, rfl⟩
   ·rw [key_rl] at h; exact SeqAt.EqAt.str_int x t j u _ _ _ _ h
   ·rw [key_rr] at h; exact wpAny_eqBool_str h
 «strs» := fun k x t v h => by
  rcases keyIs_shape h with ⟨i, u, rfl, e⟩ | ⟨y, u, rfl, e⟩
  ·exact nomatch e
  ·injection e with e1 _
   subst e1
   cases v <;> rfl
end L2
namespace L2
open PySem PySem.Spec PyProof.Rows
inductive V where
 | non | bl (b : Bool) | int (i : Int) | str (x : Str) | byt (b : Array UInt8) | flt (b : UInt64) | ref (a : Addr) | ty (n : String)
 deriving DecidableEq
noncomputable def RelV : V → Value → Prop
 | .non, u => u = Value.none
 | .bl b, u => u = Value.bool b
 | .int i, u => ∃ t, u = Value.int i t
 | .str x, u => ∃ t, u = Value.str x t
 | .byt b, u => ∃ t, u = Value.bytes b t
 | .flt b, u => ∃ t, u = Value.float b t
 | .ref a, u => u = Value.ref a
 | .ty n, u => u = Value.type n
abbrev Vals : List V → List Value → Prop := Paired RelV
theorem Vals.length {xs : List V} {us : List Value} (r : Vals xs us) : xs.length = us.length := Paired.length r
theorem Vals.get : ∀ {xs : List V} {us : List Value} {i : Nat} {x : V}, Vals xs us → xs[i]? = some x → ∃ u, us[i]? = some u ∧ RelV x u
 | _, _, _, _, .nil, e => by simp at e
 | _, _, 0, _, .cons r _, e => by simp at e; subst e; exact ⟨_, rfl, r⟩
 | _, _, i + 1, x, .cons _ t, e => by
  obtain ⟨u, h1, h2⟩ := Vals.get (i := i) (x := x) t (by simpa using e)
  exact ⟨u, by simpa using h1, h2⟩
theorem Vals.set {x : V} {u : Value} (r : RelV x u) : ∀ {xs : List V} {us : List Value} (i : Nat), Vals xs us → Vals (xs.set i x) (us.set i u)
 | _, _, _, .nil => .nil
 | _, _, 0, .cons _ t => .cons r t
 | _, _, i + 1, .cons q t => .cons q (Vals.set r i t)
theorem Vals.append : ∀ {xs ys : List V} {us ws : List Value}, Vals xs us → Vals ys ws → Vals (xs ++ ys) (us ++ ws)
 | _, _, _, _, .nil, s => s
 | _, _, _, _, .cons r t, s => .cons r (Vals.append t s)
theorem Vals.take : ∀ {xs : List V} {us : List Value} (n : Nat), Vals xs us → Vals (xs.take n) (us.take n)
 | _, _, 0, _ => .nil
 | _, _, _ + 1, .nil => .nil
 | _, _, n + 1, .cons r t => .cons r (Vals.take n t)
theorem Vals.drop : ∀ {xs : List V} {us : List Value} (n : Nat), Vals xs us → Vals (xs.drop n) (us.drop n)
 | _, _, 0, r => r
 | _, _, _ + 1, .nil => .nil
 | _, _, n + 1, .cons _ t => Vals.drop n t
noncomputable def RelO : Option V → Option Value → Prop
 | some v, some u => RelV v u
 | none, none => True
 | _, _ => False
noncomputable def KV {κ : Type} : List (κ × V) → List (κ × Value) → Prop := Paired fun (p : κ × V) (q : κ × Value) => p.1 = q.1 ∧ RelV p.2 q.2
noncomputable def kV : Key → V
 | .inl i => .int i
 | .inr x => .str x
inductive HO where
 | lst (xs : List V)
 | tup (xs : List V)
 | dK (kvs : List (Key × V)) | dT (kvs : List (List Key × V))
 | set (S : Int → Bool) (n : Nat)
 | ins (C dx : Addr) (fs : List (Str × V))
 | own (x : Addr)
 | xd (fs : List (Str × V))
 | met (f x : Addr)
 | rng (lo hi : Int)
 | frz (o : Obj) (u : HO)
 | tbl (ps : Array Value)
 | ext (φ : Heap → Prop)
abbrev Hp := Addr → Option HO
noncomputable def upd (H : Hp) (a : Addr) (o : HO) : Hp := fun b => if b = a then some o else H b
theorem upd_same {H : Hp} {a : Addr} {o : HO} : upd H a o a = some o := by unfold upd; rw [if_pos rfl]
theorem upd_ne {H : Hp} {a b : Addr} {o : HO} (h : b ≠ a) : upd H a o b = H b := by unfold upd; rw [if_neg h]
theorem ne_of_none {H : Hp} {a b : Addr} {o : HO} (h : H a = some o) (h' : H b = none) : a ≠ b := by
 intro e; subst e; rw [h] at h'; cases h'
section
variable (P : Program) (w : World)
noncomputable def ObjOk (H : Hp) (h : Heap) (a : Addr) : HO → Prop
 | .lst xs => xs.length ≤ sizeLine ∧ ∃ (its : List Value) (n : Nat), Vals xs its ∧ h.get? a = some { cls := .type "list", data := .seq its.toArray n }
 | .tup xs => xs.length ≤ sizeLine ∧ ∃ its : List Value, Vals xs its ∧ IsTup h a its.toArray
 | .dK kvs => kvs.length ≤ sizeLine ∧ (a == sysModules) = false ∧ ∃ vs, KV kvs vs ∧ h.DictOf (mixKind P w) a vs
 | .dT kvs => kvs.length ≤ sizeLine ∧ (a == sysModules) = false ∧ ∃ xs : List (List Key × Addr × Value),
   Paired (fun (p : List Key × V) (q : List Key × Addr × Value) => p.1 = q.1 ∧ H q.2.1 = some (.tup (p.1.map kV)) ∧ RelV p.2 q.2.2) kvs xs ∧
   ∃ o es ep, h.get? a = some o ∧ o.ExactDict ∧ o.data = .dict es ep ∧ es.toList = xs.map (entryOfKey (tupleKind (mixKind P w))) ∧ (xs.map (·.1)).Nodup
 | .set S n => h.SetOf (intKind P w) a S n
 | .ins C dx fs => H dx = some (.own a) ∧ fs.length ≤ 1000 ∧ dx ≠ a ∧ h.get? a = some (PySem.W.instObj C dx) ∧
   ∃ mA, h.Ns1 dx mA ∧ (∀ f, RelO (fs.lookup f) (mA f)) ∧ PySem.Within mA (fs.map (·.1))
 | .own _ => ∃ o, h.get? a = some o
 | .xd fs => ∃ mA, h.Ns1 a mA ∧ ∀ f, RelO (fs.lookup f) (mA f)
 | .rng lo hi => ∃ t u v, h.get? a = some { cls := .type "range", data := .fields #[.int lo t, .int hi u, .int 1 v] }
 | .frz o u => h.get? a = some o ∧ ObjOk H h a u
 | .tbl ps => h.get? a = some { cls := .none, data := .fields ps }
 | .met f x => h.get? a = some (PySem.W.methodObj (.ref f) (.ref x))
 | .ext φ => φ h ∧ (∃ o, h.get? a = some o) ∧ ∀ h1 h2 : Heap, φ h1 → (∀ o, h1.get? a = some o → h2.get? a = some o) → φ h2
noncomputable def HOk (H : Hp) (h : Heap) : Prop := ∀ a o, H a = some o → ObjOk P w H h a o
end
section
variable {P : Program} {w : World} {H H' : Hp} {h h' : Heap} {a : Addr} {o : HO}
theorem ObjOk.lt (x : ObjOk P w H h a o) : a < h.objs.size := by
 cases o with
 | lst xs => obtain ⟨_, _, _, _, e⟩ := x; exact Heap.lt_size e
 | tup xs => obtain ⟨_, _, _, p⟩ := x; exact p.lt
 | dK kvs => obtain ⟨_, _, _, _, o, _, _, e, _⟩ := x; exact Heap.lt_size e
 | dT kvs => obtain ⟨_, _, _, _, o, _, _, e, _⟩ := x; exact Heap.lt_size e
 | set S n => obtain ⟨o, _, _, _, e, _⟩ := x; exact Heap.lt_size e
 | ins C dx fs => obtain ⟨_, _, _, e, _⟩ := x; exact Heap.lt_size e
 | own y => obtain ⟨_, e⟩ := x; exact Heap.lt_size e
 | xd fs => obtain ⟨_, ⟨_, _, _, e, _⟩, _⟩ := x; exact Heap.lt_size e
 | rng lo hi => obtain ⟨_, _, _, e⟩ := x; exact Heap.lt_size e
 | frz ob u => obtain ⟨e, _⟩ := x; exact Heap.lt_size e
 | tbl ps => exact Heap.lt_size (show h.get? a = some _ from x)
 | met f y => exact Heap.lt_size (show h.get? a = some _ from x)
 | ext φ => obtain ⟨_, ⟨_, e⟩, _⟩ := x; exact Heap.lt_size e
theorem Paired.mapP {α β : Type} {F G : α → β → Prop} : ∀ {l₁ : List α} {l₂ : List β}, Paired F l₁ l₂ → (∀ a b, F a b → G a b) → Paired G l₁ l₂
 | _, _, .nil, _ => .nil
 | _, _, .cons r t, f => .cons (f _ _ r) (Paired.mapP t f)
theorem ObjOk.stay (x : ObjOk P w H h a o) (k : ∀ b u, (b = a ∨ H b = some (.own a)) → h.get? b = some u → h'.get? b = some u)
  (ho : ∀ b, H b = some (.own a) → H' b = some (.own a)) (ht : ∀ b xs, H b = some (.tup xs) → H' b = some (.tup xs)) : ObjOk P w H' h' a o := by
 induction o with
 | lst xs => obtain ⟨z, its, n, r, e⟩ := x; exact ⟨z, its, n, r, k _ _ (.inl rfl) e⟩
 | tup xs => obtain ⟨z, its, r, ob, e, c⟩ := x; exact ⟨z, its, r, ob, k _ _ (.inl rfl) e, c⟩
 | dK kvs => obtain ⟨z, y, vs, r, ob, es, ep, e, c⟩ := x; exact ⟨z, y, vs, r, ob, es, ep, k _ _ (.inl rfl) e, c⟩
 | dT kvs =>
  obtain ⟨z, y, xs, r, ob, es, ep, e, c⟩ := x
  exact ⟨z, y, xs, Paired.mapP r fun p q z => ⟨z.1, ht _ _ z.2.1, z.2.2⟩, ob, es, ep, k _ _ (.inl rfl) e, c⟩
 | set S n => obtain ⟨ob, es, ep, t, e, c⟩ := x; exact ⟨ob, es, ep, t, k _ _ (.inl rfl) e, c⟩
 | ins C dx fs =>
  obtain ⟨d, z, ne, e, mA, ⟨od, es, ep, e2, c⟩, r⟩ := x
  exact ⟨ho _ d, z, ne, k _ _ (.inl rfl) e, mA, ⟨od, es, ep, k _ _ (.inr d) e2, c⟩, r⟩
 | own y => obtain ⟨ob, e⟩ := x; exact ⟨ob, k _ _ (.inl rfl) e⟩
 | xd fs => obtain ⟨mA, ⟨od, es, ep, e, c⟩, r⟩ := x; exact ⟨mA, ⟨od, es, ep, k _ _ (.inl rfl) e, c⟩, r⟩
 | rng lo hi => obtain ⟨t, u, v, e⟩ := x; exact ⟨t, u, v, k _ _ (.inl rfl) e⟩
 | frz ob u ih => obtain ⟨e, q⟩ := x; exact ⟨k _ _ (.inl rfl) e, ih q⟩
 | tbl ps =>
  have e : h.get? a = some { cls := .none, data := .fields ps } := x
  show h'.get? a = some { cls := .none, data := .fields ps }
  exact k a _ (.inl rfl) e
 | met f y =>
  have e : h.get? a = some (PySem.W.methodObj (.ref f) (.ref y)) := x
  show h'.get? a = some (PySem.W.methodObj (.ref f) (.ref y))
  exact k a _ (.inl rfl) e
 | ext φ => obtain ⟨p, ⟨o, e⟩, st⟩ := x; exact ⟨st _ _ p fun o q => k _ _ (.inl rfl) q, ⟨o, k _ _ (.inl rfl) e⟩, st⟩
theorem HOk.lt (x : HOk P w H h) (e : H a = some o) : a < h.objs.size := (x a o e).lt
theorem HOk.fresh (x : HOk P w H h) (e : h.objs.size ≤ a) : H a = none := by
 cases q : H a with
 | none => rfl
 | some u => exact absurd (Nat.lt_of_lt_of_le (x.lt q) e) (Nat.lt_irrefl _)
theorem HOk.kept (x : HOk P w H h) (k : ∀ b u, h.get? b = some u → h'.get? b = some u) : HOk P w H h' := fun a o e =>
 (x a o e).stay (fun b u _ q => k b u q) (fun _ q => q) fun _ _ q => q
theorem HOk.laid (x : HOk P w H h) (k : ∀ b u, h.get? b = some u → h'.get? b = some u) (hp : h.objs.size ≤ a) (new : ObjOk P w (upd H a o) h' a o) : HOk P w (upd H a o) h' := fun b u e => by
 have hn := x.fresh hp
 by_cases hb : b = a
 ·subst hb; rw [upd_same] at e; cases e; exact new
 ·rw [upd_ne hb] at e
  exact (x b u e).stay (fun c v _ q => k c v q) (fun c q => by rw [upd_ne (ne_of_none q hn)]; exact q) fun c xs q => by rw [upd_ne (ne_of_none q hn)]; exact q
end
noncomputable def Rd (H : Hp) (a : Addr) (u : HO) : Prop := H a = some u ∨ ∃ o, H a = some (.frz o u)
theorem Rd.ok {P : Program} {w : World} {H : Hp} {h : Heap} {a : Addr} {u : HO} (r : Rd H a u) (x : HOk P w H h) : ObjOk P w H h a u := by
 rcases r with r | ⟨o, r⟩
 ·exact x a u r
 ·obtain ⟨_, q⟩ := x a _ r
  exact q
noncomputable def Mut : Option HO → Prop
 | some (.lst _) => True
 | some (.dK _) => True
 | some (.dT _) => True
 | some (.set _ _) => True
 | some (.ins _ _ _) => True
 | some (.ext _) => True
 | _ => False
section
variable {P : Program} {w : World} {H : Hp} {h h' : Heap} {x e : Addr} {o' : HO}
theorem HOk.write (ok : HOk P w H h) (mu : Mut (H x)) (he : e = x ∨ H e = some (.own x)) (k : ∀ b u, b ≠ e → h.get? b = some u → h'.get? b = some u) (heo : ∃ u, h'.get? e = some u)
  (new : ObjOk P w (upd H x o') h' x o') : HOk P w (upd H x o') h' := fun b u q => by
 have nown : ∀ c y, H c = some (.own y) → c ≠ x := fun c y r z => by subst z; rw [r] at mu; exact mu
 have ntup : ∀ c xs, H c = some (.tup xs) → c ≠ x := fun c xs r z => by subst z; rw [r] at mu; exact mu
 by_cases hb : b = x
 ·subst hb; rw [upd_same] at q; cases q; exact new
 ·rw [upd_ne hb] at q
  by_cases hbe : b = e
  ·have q' : H b = some (.own x) := by
    rcases he with z | z
    ·exact absurd (hbe.trans z) hb
    ·rw [hbe]; exact z
   rw [q] at q'; cases q'
   obtain ⟨v, hv⟩ := heo
   exact ⟨v, by rw [hbe]; exact hv⟩
  ·refine (ok b u q).stay (fun c v hc r => k c v ?_ r) (fun c r => by rw [upd_ne (nown c b r)]; exact r) fun c xs r => by rw [upd_ne (ntup c xs r)]; exact r
   rcases hc with rfl | hc
   ·exact hbe
   ·rintro rfl
    rcases he with z | z
    ·exact nown c b hc z
    ·rw [hc] at z; cases z; exact hb rfl
end
structure Un (fs ex : List Addr) (H H' : Hp) (h h' : Heap) : Prop where
 keep : ∀ b o, h.get? b = some o → H b = none → b ∉ fs → b ∉ ex → h'.get? b = some o
 slot : ∀ b o, h.get? b = some o → H b = none → b ∈ fs → b ∉ ex → ∃ sl, h'.get? b = some { o with slots := sl }
 free : ∀ b o, h.get? b = some o → H b = none → b ∉ ex → H' b = none
 there : ∀ b o, h.get? b = some o → b ∉ ex → ∃ o', h'.get? b = some o'
 tups : ∀ b xs, H b = some (.tup xs) → H' b = some (.tup xs)
 frzs : ∀ b o u, H b = some (.frz o u) → H' b = some (.frz o u)
 tbls : ∀ b ps, H b = some (.tbl ps) → ∃ more, H' b = some (.tbl (ps ++ more))
section
variable {fs fs' ex ex' : List Addr} {H H1 H2 : Hp} {h h1 h2 h' : Heap} {a x e : Addr} {o : HO}
theorem Un.any (u : Un fs ex H H1 h h1) {b : Addr} {ob : Obj} (q : h.get? b = some ob) (n : H b = none) (hx : b ∉ ex) : ∃ sl, h1.get? b = some { ob with slots := sl } := by
 by_cases hb : b ∈ fs
 ·exact u.slot b ob q n hb hx
 ·exact ⟨ob.slots, u.keep b ob q n hb hx⟩
theorem Un.kept (k : ∀ b u, h.get? b = some u → h'.get? b = some u) : Un fs ex H H h h' :=
 ⟨fun b ob q _ _ _ => k b ob q, fun b ob q _ _ _ => ⟨ob.slots, k b ob q⟩, fun _ _ _ n _ => n, fun b ob q _ => ⟨ob, k b ob q⟩, fun _ _ q => q, fun _ _ _ q => q, fun _ ps q => ⟨#[], by rw [q]; simp⟩⟩
theorem Un.refl : Un fs ex H H h h := Un.kept fun _ _ q => q
theorem Un.laid (k : ∀ b u, h.get? b = some u → h'.get? b = some u) (hp : h.objs.size ≤ a) (hn : H a = none) : Un fs ex H (upd H a o) h h' where
 keep := fun b u q _ _ _ => k b u q
 slot := fun b u q _ _ _ => ⟨u.slots, k b u q⟩
 free := fun b u q n _ => by rw [upd_ne (Nat.ne_of_lt (Nat.lt_of_lt_of_le (Heap.lt_size q) hp))]; exact n
 there := fun b u q _ => ⟨u, k b u q⟩
 tups := fun b xs q => by rw [upd_ne (ne_of_none q hn)]; exact q
 frzs := fun b u xs q => by rw [upd_ne (ne_of_none q hn)]; exact q
 tbls := fun b ps q => ⟨#[], by rw [upd_ne (ne_of_none q hn), q]; simp⟩
theorem Un.write (mu : Mut (H x)) (he : e = x ∨ H e = some (.own x)) (k : ∀ b u, b ≠ e → h.get? b = some u → h'.get? b = some u) (heo : ∃ u, h'.get? e = some u) : Un fs ex H (upd H x o) h h' := by
 have hx : ∀ b, H b = none → b ≠ x := fun b n z => by subst z; rw [n] at mu; exact mu
 have hb : ∀ b, H b = none → b ≠ e := fun b n z => by
  subst z
  rcases he with r | r
  ·exact hx b n r
  ·rw [n] at r; cases r
 have hm : ∀ b u, H b = some u → ¬ Mut (some u) → b ≠ x := fun b u q nm z => by subst z; rw [q] at mu; exact nm mu
 refine ⟨fun b u q n _ _ => k b u (hb b n) q, fun b u q n _ _ => ⟨u.slots, k b u (hb b n) q⟩, fun b u q n _ => by rw [upd_ne (hx b n)]; exact n, fun b u q _ => ?_,
  fun b xs q => by rw [upd_ne (hm b _ q fun z => z)]; exact q, fun b u xs q => by rw [upd_ne (hm b _ q fun z => z)]; exact q, fun b ps q => ⟨#[], by rw [upd_ne (hm b _ q fun z => z), q]; simp⟩⟩
 by_cases hbe : b = e
 ·subst hbe; exact heo
 ·exact ⟨u, k b u hbe q⟩
end
noncomputable def trk (h : Heap) (H : Hp) : List Addr := (List.range h.objs.size).filter fun a => (H a).isSome
noncomputable def hidT (h : Heap) (H : Hp) : Heap := PySem.W.hideAll h (trk h H)
theorem hidT_size (h : Heap) (H : Hp) : (hidT h H).objs.size = h.objs.size := PySem.W.hideAll_size _ _
theorem hidT_get {h : Heap} {H : Hp} {b : Addr} {o : Obj} (e : h.get? b = some o) (n : H b = none) : (hidT h H).get? b = some o :=
 PySem.W.hideAll_get _ e fun hm => by
  have q : (H b).isSome = true := (List.mem_filter.mp hm).2
  rw [n] at q; simp at q
theorem of_hidT {h : Heap} {H : Hp} {b : Addr} {o : Obj} (e : (hidT h H).get? b = some o) : h.get? b = some o ∧ H b = none := by
 have e' : h.get? b = some o := PySem.W.of_hideAll (trk h H) e
 refine ⟨e', ?_⟩
 cases q : H b with
 | none => rfl
 | some x =>
  have hm : b ∈ trk h H := List.mem_filter.mpr ⟨List.mem_range.mpr (Heap.lt_size e'), by simp [q]⟩
  have z : (hidT h H).get? b = none := PySem.W.hideAll_none (trk h H) hm
  rw [z] at e; cases e
end L2
namespace L2
open PySem PySem.Spec PyProof.Rows
structure Mod (K : PySem.W.Frag) (mg : Str → Option Value) (base : Heap) : Prop where
 kin : K.In base
 glob : base.Ns mainGlobals mg
 blt : ∃ mb, base.Ns builtinsNs mb ∧ ∀ x : Str, x ≠ "__name__" → mb x = bootBuiltins x
 nolimit : base.NoLimit
set_option genInjectivity false in
structure Cx where
 prog : Program
 w : World
 K : PySem.W.Frag
 mg : Str → Option Value
 base : Heap
 A : Around
 N : List Str
 s₀ : Shared
 H₀ : Hp
 env : Env
 outer : List Env
 stack : List Env
 ex : List Addr
 fn : Str → Bool
 calm : Bool
 pn : List (Addr × Obj)
 xe : Value → Shared → Prop
noncomputable def frs (l : List Env) : List Addr := l.filterMap (·.frame)
abbrev Cx.fs (X : Cx) : List Addr := frs X.outer
noncomputable def Vis (sc : Scope) (x : Str) : Prop := sc.names.lookup x = some .local ∨ sc.names.lookup x = some .cell ∨ sc.names.lookup x = some .free
noncomputable def Loc (sc : Scope) (x : Str) : Prop := sc.names.lookup x = some .local ∨ sc.names.lookup x = some .cell
noncomputable def Look (env : Env) (h : Heap) (m : Str → Option Value) (x : Str) (u : Value) : Prop :=
 (env.kindOf x = some .local ∧ m x = some u) ∨ ((env.kindOf x = some .cell ∨ env.kindOf x = some .free) ∧ ∃ c, env.cells.lookup x = some c ∧ h.IsCell c (some u))
structure Cx.Ok (X : Cx) : Prop where
 mod : Mod X.K X.mg X.base
 kind : X.env.scope.kind = .function
 glob : X.env.globals = mainGlobals
 blt : X.env.builtins = builtinsNs
 above : X.s₀.heap.objs.size ≤ X.env.locals
 inj : ∀ x y c, X.env.cells.lookup x = some c → X.env.cells.lookup y = some c → x = y
 has : ∀ x, (X.env.kindOf x = some .cell ∨ X.env.kindOf x = some .free) → ∃ c, X.env.cells.lookup x = some c
 cab : ∀ x c, X.fn x = true → X.env.cells.lookup x = some c → X.s₀.heap.objs.size ≤ c
 hd : X.calm = true → X.A.handled = none
 frames : X.A.frames = some X.stack
 stk : X.stack = X.outer ∨ (X.stack = X.env :: X.outer ∧ X.env.frame = some X.env.locals)
 exf : ∀ b ∈ X.ex, b ≠ X.env.locals ∧ ∀ x c, X.env.cells.lookup x = some c → c ≠ b
 bs : ∀ b o, X.base.get? b = some o → X.s₀.heap.get? b = some o ∧ X.H₀ b = none
 bsz : X.base.objs.size ≤ X.s₀.heap.objs.size
 noex : ∀ b o, X.base.get? b = some o → b ∉ X.ex
 exfs : ∀ b ∈ X.ex, b ∉ X.fs
 funs : X.s₀.heap.FunFrames X.base X.outer
 frf : ∀ b ∈ X.fs, X.H₀ b = none
structure Inv (X : Cx) (pins : List (Addr × Obj)) (σ : List (Option V)) (H : Hp) (s : Shared) : Prop where
 ok : X.Ok
 os : s.os = X.s₀.os
 bare : AllBare s.gens
 base : Un X.fs X.ex X.H₀ H X.s₀.heap s.heap
 loc : ∃ m, s.heap.Ns X.env.locals m ∧ ∀ (i : Nat) (x : Str) (v : V), X.N[i]? = some x → σ[i]? = some (some v) → Vis X.env.scope x → ∃ u, RelV v u ∧ Look X.env s.heap m x u
 cell : ∀ x c, X.env.cells.lookup x = some c → ∃ v, s.heap.IsCell c v
 free : H X.env.locals = none
 freeC : ∀ x c, X.env.cells.lookup x = some c → H c = none
 pin : ∀ p ∈ X.pn ++ pins, s.heap.get? p.1 = some p.2 ∧ H p.1 = none ∧ p.1 ≠ X.env.locals ∧ p.1 ∉ X.fs ∧ ∀ v, p.2.data ≠ .cell v
 hok : HOk X.prog X.w H s.heap
 len : σ.length = X.N.length
section
variable {X : Cx} {pins : List (Addr × Obj)} {σ : List (Option V)} {H H' : Hp} {s : Shared} {h' : Heap}
theorem Cx.Ok.nofr (ok : X.Ok) {b : Addr} {o : Obj} (e : X.base.get? b = some o) : b ∉ X.fs := fun hb => by
 have := (ok.funs.mem hb).1
 rw [e] at this; cases this
theorem Inv.bs (I : Inv X pins σ H s) : ∀ b o, X.base.get? b = some o → s.heap.get? b = some o ∧ H b = none := fun b o e =>
 ⟨I.base.keep b o (I.ok.bs b o e).1 (I.ok.bs b o e).2 (I.ok.nofr e) (I.ok.noex b o e), I.base.free b o (I.ok.bs b o e).1 (I.ok.bs b o e).2 (I.ok.noex b o e)⟩
theorem Inv.bk (I : Inv X pins σ H s) : ∀ b o, X.base.get? b = some o → s.heap.get? b = some o := fun b o e => (I.bs b o e).1
theorem Inv.mod (I : Inv X pins σ H s) : Mod X.K X.mg X.base := I.ok.mod
theorem Inv.kIn (I : Inv X pins σ H s) : X.K.In s.heap := I.ok.mod.kin.keeps I.bk
theorem Inv.lt (I : Inv X pins σ H s) : X.env.locals < s.heap.objs.size := let ⟨_, hn, _⟩ := I.loc; hn.lt
theorem Inv.sz (I : Inv X pins σ H s) : X.s₀.heap.objs.size ≤ s.heap.objs.size := Nat.le_trans I.ok.above (Nat.le_of_lt I.lt)
theorem Inv.nofs (I : Inv X pins σ H s) {a : Addr} (h : s.heap.objs.size ≤ a) : a ∉ X.fs := fun hb => by
 obtain ⟨_, o, ho, _⟩ := I.ok.funs.mem hb
 exact absurd (Nat.lt_of_lt_of_le (Heap.lt_size ho) (Nat.le_trans I.sz h)) (Nat.lt_irrefl _)
theorem Inv.cne (I : Inv X pins σ H s) : ∀ x c, X.env.cells.lookup x = some c → c ≠ X.env.locals := fun x c e z => by
 obtain ⟨v, o, ho, hd⟩ := I.cell x c e
 obtain ⟨m, ⟨o', es, ep, ho', hd', _⟩, _⟩ := I.loc
 rw [z, ho'] at ho; cases ho; rw [hd'] at hd; cases hd
theorem Inv.funs (I : Inv X pins σ H s) : s.heap.FunFrames X.base X.outer := by
 have all : ∀ (l : List Env), (∀ b ∈ frs l, b ∈ X.fs) → X.s₀.heap.FunFrames X.base l → s.heap.FunFrames X.base l := by
  intro l
  induction l with
  | nil => intro _ _; trivial
  | cons env r ih =>
   intro hs hl
   obtain ⟨hk, ⟨L, o, hf, hn, ho, hd⟩, hr⟩ := hl
   have hL : L ∈ X.fs := hs L (by unfold frs; rw [List.filterMap_cons, hf]; exact List.mem_cons_self)
   obtain ⟨sl, e⟩ := I.base.slot L o ho (I.ok.frf L hL) hL fun z => I.ok.exfs L z hL
   exact ⟨hk, ⟨L, _, hf, hn, e, hd⟩, ih (fun b hb => hs b (by unfold frs; rw [List.filterMap_cons, hf]; exact List.mem_cons_of_mem _ hb)) hr⟩
 exact all X.outer (fun _ hb => hb) I.ok.funs
theorem Inv.stack (I : Inv X pins σ H s) : s.heap.FunFrames X.base X.stack := by
 rcases I.ok.stk with e | ⟨e, hf⟩
 ·rw [e]; exact I.funs
 ·rw [e]
  obtain ⟨m, hn, _⟩ := I.loc
  refine .cons (by rw [I.ok.kind]; decide) hf hn ?_ I.funs
  exact Heap.get?_none_of_le (Nat.le_trans I.ok.bsz I.ok.above)
theorem Inv.stkSub (I : Inv X pins σ H s) : ∀ b ∈ frs X.stack, b ∈ X.env.locals :: X.fs := fun b hb => by
 rcases I.ok.stk with e | ⟨e, hf⟩
 ·rw [e] at hb; exact List.mem_cons_of_mem _ hb
 ·rw [e] at hb
  unfold frs at hb
  rw [List.filterMap_cons, hf] at hb
  exact hb
theorem Inv.stkFree (I : Inv X pins σ H s) : ∀ b ∈ frs X.stack, H b = none := fun b hb => by
 rcases List.mem_cons.mp (I.stkSub b hb) with e | hb
 ·rw [e]; exact I.free
 ·obtain ⟨_, o, ho, _⟩ := I.ok.funs.mem hb
  exact I.base.free b o ho (I.ok.frf b hb) fun z => I.ok.exfs b z hb
theorem Inv.step {g' : Array GenState} {t' : Nat} {d' : Drawn} {ch : List Addr} (I : Inv X pins σ H s)
  (hch : ∀ b ∈ ch, (b ∈ X.ex ∨ X.s₀.heap.objs.size ≤ b) ∧ b ≠ X.env.locals ∧ (∀ x c, X.env.cells.lookup x = some c → c ≠ b) ∧ ∀ p ∈ X.pn ++ pins, p.1 ≠ b)
  (keep : ∀ b o, b ≠ X.env.locals → b ∉ X.fs → b ∉ ch → s.heap.get? b = some o → H b = none → h'.get? b = some o)
  (slot : ∀ b o, b ≠ X.env.locals → b ∈ X.fs → b ∉ ch → s.heap.get? b = some o → H b = none → ∃ sl, h'.get? b = some { o with slots := sl }) (free : ∀ b o, b ∉ ch → s.heap.get? b = some o → H b = none → H' b = none)
  (there : ∀ b o, b ∉ ch → s.heap.get? b = some o → ∃ o', h'.get? b = some o')
  (tups : ∀ b xs, H b = some (.tup xs) → H' b = some (.tup xs)) (frzs : ∀ b o u, H b = some (.frz o u) → H' b = some (.frz o u)) (tbls : ∀ b ps, H b = some (.tbl ps) → ∃ more, H' b = some (.tbl (ps ++ more)))
  (ns : ∀ m, s.heap.Ns X.env.locals m → h'.Ns X.env.locals m) (hok : HOk X.prog X.w H' h') (hg : AllBare g') :
  Inv X pins σ H' { s with heap := h', gens := g', drawn := d', toks := t' } := by
 have neL : ∀ b o, X.s₀.heap.get? b = some o → b ≠ X.env.locals := fun b o e => Nat.ne_of_lt (Nat.lt_of_lt_of_le (Heap.lt_size e) I.ok.above)
 have neC : ∀ b o, X.s₀.heap.get? b = some o → b ∉ X.ex → b ∉ ch := fun b o e hx hb => by
  rcases (hch b hb).1 with z | z
  ·exact hx z
  ·exact absurd (Nat.lt_of_lt_of_le (Heap.lt_size e) z) (Nat.lt_irrefl _)
 have cellK : ∀ x c, X.env.cells.lookup x = some c → ∀ v, s.heap.IsCell c v → h'.IsCell c v := fun x c e v ⟨o, ho, hd⟩ => by
  have nch : c ∉ ch := fun z => (hch c z).2.2.1 x c e rfl
  by_cases hc : c ∈ X.fs
  ·obtain ⟨sl, q⟩ := slot c o (I.cne x c e) hc nch ho (I.freeC x c e)
   exact ⟨_, q, hd⟩
  ·exact ⟨o, keep c o (I.cne x c e) hc nch ho (I.freeC x c e), hd⟩
 refine ⟨I.ok, I.os, hg, ⟨fun b o e n hb hx => ?_, fun b o e n hb hx => ?_, fun b o e n hx => ?_, fun b o e hx => ?_, fun b xs e => tups b xs (I.base.tups b xs e), fun b o xs e => frzs b o xs (I.base.frzs b o xs e), fun b ps e => ?_⟩, ?_, fun x c e => ?_, ?_, fun x c e => ?_, fun p hp => ?_, hok, I.len⟩
 ·exact keep b o (neL b o e) hb (neC b o e hx) (I.base.keep b o e n hb hx) (I.base.free b o e n hx)
 ·obtain ⟨sl, e1⟩ := I.base.slot b o e n hb hx
  obtain ⟨sl', e2⟩ := slot b _ (neL b o e) hb (neC b o e hx) e1 (I.base.free b o e n hx)
  exact ⟨sl', e2⟩
 ·obtain ⟨o', e1⟩ := I.base.there b o e hx
  exact free b o' (neC b o e hx) e1 (I.base.free b o e n hx)
 ·obtain ⟨o', e1⟩ := I.base.there b o e hx
  exact there b o' (neC b o e hx) e1
 ·obtain ⟨m1, e1⟩ := I.base.tbls b ps e
  obtain ⟨m2, e2⟩ := tbls b _ e1
  exact ⟨m1 ++ m2, by rw [e2, Array.append_assoc]⟩
 ·obtain ⟨m, hn, hl⟩ := I.loc
  refine ⟨m, ns m hn, fun i x v e1 e2 e3 => ?_⟩
  obtain ⟨u, r, l⟩ := hl i x v e1 e2 e3
  refine ⟨u, r, ?_⟩
  rcases l with l | ⟨k, c, e, z⟩
  ·exact .inl l
  ·exact .inr ⟨k, c, e, cellK x c e _ z⟩
 ·obtain ⟨v, z⟩ := I.cell x c e
  exact ⟨v, cellK x c e v z⟩
 ·obtain ⟨m, ⟨o, _, _, ho, _⟩, _⟩ := I.loc
  exact free _ o (fun z => (hch _ z).2.1 rfl) ho I.free
 ·obtain ⟨v, o, ho, hd⟩ := I.cell x c e
  exact free c o (fun z => (hch c z).2.2.1 x c e rfl) ho (I.freeC x c e)
 ·obtain ⟨e, n, ne, nf, d⟩ := I.pin p hp
  have nch : p.1 ∉ ch := fun z => (hch p.1 z).2.2.2 p hp rfl
  exact ⟨keep p.1 p.2 ne nf nch e n, free p.1 p.2 nch e n, ne, nf, d⟩
theorem Inv.un {t' : Nat} (I : Inv X pins σ H s) (u : Un X.fs [] H H' s.heap h') (hok : HOk X.prog X.w H' h') : Inv X pins σ H' { s with heap := h', toks := t' } := by
 obtain ⟨m, ⟨o, es, ep, ho, r⟩, _⟩ := id I.loc
 obtain ⟨sl, hL⟩ := u.any ho I.free (by simp)
 exact I.step (g' := s.gens) (d' := s.drawn) (ch := []) (fun _ z => nomatch z) (fun b o _ hb _ e n => u.keep b o e n hb (by simp)) (fun b o _ hb _ e n => u.slot b o e n hb (by simp)) (fun b o _ e n => u.free b o e n (by simp)) (fun b o _ e => u.there b o e (by simp)) u.tups u.frzs u.tbls (fun m' hm => by
  obtain ⟨o', es', ep', ho', r'⟩ := hm
  rw [ho] at ho'; cases ho'
  exact ⟨_, es', ep', hL, r'⟩) hok I.bare
theorem Inv.call {g' : Array GenState} {t' : Nat} {d' : Drawn} {ch : List Addr} (I : Inv X pins σ H s) (u : Un (frs X.stack) ch H H' s.heap h') (hok : HOk X.prog X.w H' h') (hg : AllBare g')
  (hch : ∀ b ∈ ch, (b ∈ X.ex ∨ X.s₀.heap.objs.size ≤ b) ∧ b ≠ X.env.locals ∧ (∀ x c, X.env.cells.lookup x = some c → c ≠ b) ∧ ∀ p ∈ X.pn ++ pins, p.1 ≠ b) :
  Inv X pins σ H' { s with heap := h', gens := g', drawn := d', toks := t' } := by
 obtain ⟨m, ⟨o, es, ep, ho, r⟩, _⟩ := id I.loc
 obtain ⟨sl, hL⟩ := u.any ho I.free fun z => (hch _ z).2.1 rfl
 exact I.step (ch := ch) hch (fun b o hL hb hc e n => u.keep b o e n (fun z => (List.mem_cons.mp (I.stkSub b z)).elim hL hb) hc) (fun b o _ _ hc e n => u.any e n hc) (fun b o hc e n => u.free b o e n hc) (fun b o hc e => u.there b o e hc) u.tups u.frzs u.tbls (fun m' hm => by
  obtain ⟨o', es', ep', ho', r'⟩ := hm
  rw [ho] at ho'; cases ho'
  exact ⟨_, es', ep', hL, r'⟩) hok hg
theorem Inv.turned {t' : Nat} {it : Addr} (I : Inv X pins σ H s) (k : ∀ b o, b ≠ it → s.heap.get? b = some o → h'.get? b = some o) (hn : H it = none) (hL : it ≠ X.env.locals)
  (h1 : it ∈ X.ex ∨ X.s₀.heap.objs.size ≤ it) (h2 : ∀ x c, X.env.cells.lookup x = some c → c ≠ it) (h3 : ∀ p ∈ X.pn ++ pins, p.1 ≠ it) : Inv X pins σ H { s with heap := h', toks := t' } := by
 have nit : ∀ b u, H b = some u → b ≠ it := fun b u e z => by rw [z, hn] at e; cases e
 refine I.step (g' := s.gens) (d' := s.drawn) (ch := [it]) (fun b hb => ?_) (fun b o _ _ hc e _ => k b o (fun z => hc (by simp [z])) e) (fun b o _ _ hc e _ => ⟨o.slots, k b o (fun z => hc (by simp [z])) e⟩) (fun _ _ _ _ n => n)
  (fun b o hc e => ⟨o, k b o (fun z => hc (by simp [z])) e⟩) (fun _ _ e => e) (fun _ _ _ e => e) (fun b ps e => ⟨#[], by rw [e]; simp⟩) (fun m hm => ?_) (fun b u e => ?_) I.bare
 ·have e : b = it := by simpa using hb
  subst e
  exact ⟨h1, hL, h2, h3⟩
 ·obtain ⟨o, es, ep, ho, r⟩ := hm
  exact ⟨o, es, ep, k _ o (Ne.symm hL) ho, r⟩
 ·refine (I.hok b u e).stay (fun c v hc q => k c v ?_ q) (fun _ q => q) fun _ _ q => q
  rcases hc with z | z
  ·rw [z]; exact nit b u e
  ·exact nit c _ z
theorem Inv.tok (I : Inv X pins σ H s) (t : Nat) : Inv X pins σ H { s with toks := t } := I.un (h' := s.heap) (t' := t) Un.refl I.hok
theorem Inv.kept {t' : Nat} (I : Inv X pins σ H s) (k : ∀ b u, s.heap.get? b = some u → h'.get? b = some u) : Inv X pins σ H { s with heap := h', toks := t' } := I.un (Un.kept k) (I.hok.kept k)
theorem Inv.laid {a : Addr} {o : HO} {t' : Nat} (I : Inv X pins σ H s) (k : ∀ b u, s.heap.get? b = some u → h'.get? b = some u) (hp : s.heap.objs.size ≤ a) (new : ObjOk X.prog X.w (upd H a o) h' a o) :
  Inv X pins σ (upd H a o) { s with heap := h', toks := t' } := I.un (Un.laid k hp (I.hok.fresh hp)) (I.hok.laid k hp new)
theorem Inv.write {x e : Addr} {o : HO} {t' : Nat} (I : Inv X pins σ H s) (mu : Mut (H x)) (he : e = x ∨ H e = some (.own x)) (k : ∀ b u, b ≠ e → s.heap.get? b = some u → h'.get? b = some u) (heo : ∃ u, h'.get? e = some u)
  (new : ObjOk X.prog X.w (upd H x o) h' x o) : Inv X pins σ (upd H x o) { s with heap := h', toks := t' } := I.un (Un.write mu he k heo) (I.hok.write mu he k heo new)
theorem Inv.pins_of {pins' : List (Addr × Obj)} (I : Inv X pins σ H s) (h : ∀ p ∈ pins', s.heap.get? p.1 = some p.2 ∧ H p.1 = none ∧ p.1 ≠ X.env.locals ∧ p.1 ∉ X.fs ∧ ∀ v, p.2.data ≠ .cell v) : Inv X pins' σ H s :=
 ⟨I.ok, I.os, I.bare, I.base, I.loc, I.cell, I.free, I.freeC, fun p hp => (List.mem_append.mp hp).elim (fun z => I.pin p (List.mem_append_left _ z)) (h p), I.hok, I.len⟩
theorem nodup_ix {N : List Str} (hN : N.Nodup) {i j : Nat} {x : Str} (a : N[i]? = some x) (b : N[j]? = some x) : i = j := by
 obtain ⟨h1, e1⟩ := List.getElem?_eq_some_iff.mp a
 obtain ⟨h2, e2⟩ := List.getElem?_eq_some_iff.mp b
 exact (List.getElem_inj hN).mp (e1.trans e2.symm)
theorem store_ok2 {M : Model} {A : Around} {E : Value → Shared → Prop} {i : Nat} {x : Str} {v : V} {u : Value} {Q : Unit → Shared → Prop} (I : Inv X pins σ H s) (hN : X.N.Nodup) (hi : X.N[i]? = some x) (hx : Loc X.env.scope x) (r : RelV v u)
  (h : ∀ s', Inv X pins (σ.set i (some v)) H s' → (∃ a, Heap.SameBut a s.heap s'.heap ∧ (a = X.env.locals ∨ X.env.cells.lookup x = some a)) → Q () s') (hf : X.fn x = true ∨ X.env.scope.names.lookup x = some .local := by first | exact .inl rfl | exact .inr rfl | assumption) : wpAny M A (storeName X.env x u) Q E s := by
 obtain ⟨m, hn, hl⟩ := id I.loc
 have hcls : (X.env.scope.kind == .class || (X.env.scope.kind == .module && X.env.locals != X.env.globals)) = false := by rw [I.ok.kind]; rfl
 have hiσ : i < σ.length := by rw [I.len]; exact (List.getElem?_eq_some_iff.mp hi).1
 have cne := I.cne
 have tracked : ∀ {a : Addr} {h' : Heap}, (∃ o, s.heap.get? a = some o ∧ H a = none) → Heap.SameBut a s.heap h' → HOk X.prog X.w H h' := fun {a h'} ha hs b ob e => by
  obtain ⟨_, _, hfree⟩ := ha
  refine (I.hok b ob e).stay (fun c w' hc q => (hs.2 c ?_).trans q) (fun _ q => q) fun _ _ q => q
  rintro rfl
  rcases hc with rfl | hc
  ·rw [hfree] at e; cases e
  ·rw [hfree] at hc; cases hc
 rcases hx with hk | hk
 ·refine wpAny_storeName_local hk hn (fun h' hn' hs => ?_) hcls
  obtain ⟨oL, _, _, hoL, _⟩ := id hn
  refine h _ ⟨I.ok, I.os, I.bare, ⟨fun b o e n hb hx => ?_, fun b o e n hb hx => ?_, I.base.free, fun b o e hx => ?_, I.base.tups, I.base.frzs, I.base.tbls⟩, ⟨_, hn', fun j y v' e1 e2 e3 => ?_⟩, fun y c e => ?_, I.free, I.freeC, fun p hp => ?_, tracked ⟨oL, hoL, I.free⟩ hs, by simpa using I.len⟩ ⟨_, hs, .inl rfl⟩
  ·exact (hs.2 b (Nat.ne_of_lt (Nat.lt_of_lt_of_le (Heap.lt_size e) I.ok.above))).trans (I.base.keep b o e n hb hx)
  ·obtain ⟨sl, e1⟩ := I.base.slot b o e n hb hx
   exact ⟨sl, (hs.2 b (Nat.ne_of_lt (Nat.lt_of_lt_of_le (Heap.lt_size e) I.ok.above))).trans e1⟩
  ·obtain ⟨o', e1⟩ := I.base.there b o e hx
   exact ⟨o', (hs.2 b (Nat.ne_of_lt (Nat.lt_of_lt_of_le (Heap.lt_size e) I.ok.above))).trans e1⟩
  ·by_cases hj : j = i
   ·subst hj
    rw [hi] at e1; cases e1
    rw [List.getElem?_set_self hiσ] at e2
    cases e2
    exact ⟨u, r, .inl ⟨hk, by simp⟩⟩
   ·rw [List.getElem?_set_ne (Ne.symm hj)] at e2
    obtain ⟨u', r', q⟩ := hl j y v' e1 e2 e3
    refine ⟨u', r', ?_⟩
    rcases q with ⟨k, e⟩ | ⟨k, c, e, z⟩
    ·refine .inl ⟨k, ?_⟩
     have : y ≠ x := fun e => hj (nodup_ix hN e1 (e ▸ hi))
     simp [this, e]
    ·exact .inr ⟨k, c, e, z.sameBut hs (cne y c e)⟩
  ·obtain ⟨w', z⟩ := I.cell y c e
   exact ⟨w', z.sameBut hs (cne y c e)⟩
  ·obtain ⟨e, n, ne, nf, d⟩ := I.pin p hp
   exact ⟨(hs.2 p.1 ne).trans e, n, ne, nf, d⟩
 ·have hfn : X.fn x = true := by
   rcases hf with z | z
   ·exact z
   ·rw [z] at hk; cases hk
  obtain ⟨c, hc⟩ := I.ok.has x (.inl hk)
  obtain ⟨w', z⟩ := I.cell x c hc
  refine wpAny_storeName_cell I.ok.kind hk hc z (fun h' hc' hs => ?_)
  obtain ⟨oc, hoc, hocd⟩ := id z
  refine h { s with heap := h' } ⟨I.ok, I.os, I.bare, ⟨fun b o e n hb hx => ?_, fun b o e n hb hx => ?_, I.base.free, fun b o e hx => ?_, I.base.tups, I.base.frzs, I.base.tbls⟩, ⟨m, hn.sameBut hs (Ne.symm (cne x c hc)), fun j y v' e1 e2 e3 => ?_⟩, fun y c' e => ?_, I.free, I.freeC, fun p hp => ?_, tracked ⟨oc, hoc, I.freeC x c hc⟩ hs, by simpa using I.len⟩ ⟨c, hs, .inr hc⟩
  ·exact (hs.2 b (Nat.ne_of_lt (Nat.lt_of_lt_of_le (Heap.lt_size e) (I.ok.cab x c hfn hc)))).trans (I.base.keep b o e n hb hx)
  ·obtain ⟨sl, e1⟩ := I.base.slot b o e n hb hx
   exact ⟨sl, (hs.2 b (Nat.ne_of_lt (Nat.lt_of_lt_of_le (Heap.lt_size e) (I.ok.cab x c hfn hc)))).trans e1⟩
  ·obtain ⟨o', e1⟩ := I.base.there b o e hx
   exact ⟨o', (hs.2 b (Nat.ne_of_lt (Nat.lt_of_lt_of_le (Heap.lt_size e) (I.ok.cab x c hfn hc)))).trans e1⟩
  ·by_cases hj : j = i
   ·subst hj
    rw [hi] at e1; cases e1
    rw [List.getElem?_set_self hiσ] at e2
    cases e2
    exact ⟨u, r, .inr ⟨.inl hk, c, hc, hc'⟩⟩
   ·rw [List.getElem?_set_ne (Ne.symm hj)] at e2
    obtain ⟨u', r', q⟩ := hl j y v' e1 e2 e3
    refine ⟨u', r', ?_⟩
    rcases q with q | ⟨k, c', e, z'⟩
    ·exact .inl q
    ·refine .inr ⟨k, c', e, z'.sameBut hs ?_⟩
     rintro rfl
     exact hj (nodup_ix hN e1 (I.ok.inj _ _ _ e hc ▸ hi))
  ·by_cases hcc : c' = c
   ·subst hcc; exact ⟨_, hc'⟩
   ·obtain ⟨w2, z2⟩ := I.cell y c' e
    exact ⟨w2, z2.sameBut hs hcc⟩
  ·obtain ⟨e, n, ne, nf, d⟩ := I.pin p hp
   refine ⟨(hs.2 p.1 ?_).trans e, n, ne, nf, d⟩
   intro q
   rw [q, hoc] at e
   have q' : oc = p.2 := Option.some.inj e
   exact d w' (by rw [← q']; exact hocd)
theorem store_ok {M : Model} {A : Around} {E : Value → Shared → Prop} {i : Nat} {x : Str} {v : V} {u : Value} {Q : Unit → Shared → Prop} (I : Inv X pins σ H s) (hN : X.N.Nodup) (hi : X.N[i]? = some x) (hx : Loc X.env.scope x) (r : RelV v u)
  (h : ∀ s', Inv X pins (σ.set i (some v)) H s' → Q () s') (hf : X.fn x = true ∨ X.env.scope.names.lookup x = some .local := by first | exact .inl rfl | exact .inr rfl | assumption) : wpAny M A (storeName X.env x u) Q E s :=
 store_ok2 I hN hi hx r (fun s' I' _ => h s' I') hf
theorem Inv.call' {s' : Shared} {ch : List Addr} (I : Inv X pins σ H s) (ho : s'.os = s.os) (u : Un (frs X.stack) ch H H' s.heap s'.heap) (hok : HOk X.prog X.w H' s'.heap) (hg : AllBare s'.gens)
  (hch : ∀ b ∈ ch, (b ∈ X.ex ∨ X.s₀.heap.objs.size ≤ b) ∧ b ≠ X.env.locals ∧ (∀ x c, X.env.cells.lookup x = some c → c ≠ b) ∧ ∀ p ∈ X.pn ++ pins, p.1 ≠ b) : Inv X pins σ H' s' := by
 obtain ⟨h', g', d', t', o'⟩ := s'
 have e : o' = s.os := ho
 subst e
 exact I.call (g' := g') (t' := t') (d' := d') u hok hg hch
end
abbrev XK := Value → Option Addr → Hp → Prop
abbrev St := List (Option V)
abbrev VK := V → Hp → Prop
abbrev TE := St → Hp → VK → Prop
abbrev TT := St → Hp → (Bool → Hp → Prop) → Prop
abbrev TA := St → Hp → (List V → Hp → Prop) → Prop
set_option genInjectivity false in
structure Ends where
 nx : St → Hp → Prop
 rt : VK
 bk : St → Hp → Prop := fun _ _ => False
 ct : St → Hp → Prop := fun _ _ => False
abbrev TS := Ends → St → Hp → Prop
noncomputable def EP (X : Cx) (pins : List (Addr × Obj)) (σ : St) (Q : VK) (u : Value) (s' : Shared) : Prop := ∃ v H', Inv X pins σ H' s' ∧ RelV v u ∧ Q v H'
noncomputable def TP (X : Cx) (pins : List (Addr × Obj)) (σ : St) (Q : Bool → Hp → Prop) (b : Bool) (s' : Shared) : Prop := ∃ H', Inv X pins σ H' s' ∧ Q b H'
noncomputable def AP (X : Cx) (pins : List (Addr × Obj)) (σ : St) (Q : List V → Hp → Prop) (us : List Value) (s' : Shared) : Prop := ∃ vs H', Inv X pins σ H' s' ∧ Vals vs us ∧ Q vs H'
noncomputable def SP (X : Cx) (pins : List (Addr × Obj)) (D : Ends) (f : Flow) (s' : Shared) : Prop :=
 match f with
 | .next => ∃ σ' H', Inv X pins σ' H' s' ∧ D.nx σ' H'
 | .brk => ∃ σ' H', Inv X pins σ' H' s' ∧ D.bk σ' H'
 | .cont => ∃ σ' H', Inv X pins σ' H' s' ∧ D.ct σ' H'
 | .ret u => ∃ v σ' H', Inv X pins σ' H' s' ∧ RelV v u ∧ D.rt v H'
noncomputable def PE (X : Cx) (e : Expr) (t : TE) : Prop :=
 ∀ (pins : List (Addr × Obj)) (s : Shared) (σ : St) (H : Hp) (Q : VK), Inv X pins σ H s → t σ H Q → wpAny (model X.prog X.w) X.A (eval e X.env) (EP X pins σ Q) X.xe s
noncomputable def PT (X : Cx) (e : Expr) (t : TT) : Prop :=
 ∀ (pins : List (Addr × Obj)) (s : Shared) (σ : St) (H : Hp) (Q : Bool → Hp → Prop), Inv X pins σ H s → t σ H Q → wpAny (model X.prog X.w) X.A (isTrue e X.env (eval e X.env)) (TP X pins σ Q) X.xe s
noncomputable def PW (X : Cx) (e : Expr) (t : TT) : Prop :=
 ∀ (whole : Sem Value) (pins : List (Addr × Obj)) (s : Shared) (σ : St) (H : Hp) (Q : Bool → Hp → Prop), Inv X pins σ H s → t σ H Q → wpAny (model X.prog X.w) X.A (isTrue e X.env whole) (TP X pins σ Q) X.xe s
theorem PW.pt {X : Cx} {e : Expr} {t : TT} (h : PW X e t) : PT X e t := h _
noncomputable def PA (X : Cx) (es : List Expr) (t : TA) : Prop :=
 ∀ (pos : Pos) (pins : List (Addr × Obj)) (s : Shared) (σ : St) (H : Hp) (Q : List V → Hp → Prop), Inv X pins σ H s → t σ H Q → wpAny (model X.prog X.w) X.A (spliced (backTo pos (starEach es X.env))) (AP X pins σ Q) X.xe s
noncomputable def PS (X : Cx) (st : Stmt) (t : TS) : Prop :=
 ∀ (pins : List (Addr × Obj)) (s : Shared) (σ : St) (H : Hp) (D : Ends), Inv X pins σ H s → t D σ H → wpAny (model X.prog X.w) X.A (exec st X.env) (SP X pins D) X.xe s
noncomputable def PSs (X : Cx) (st : List Stmt) (t : TS) : Prop :=
 ∀ (pins : List (Addr × Obj)) (s : Shared) (σ : St) (H : Hp) (D : Ends), Inv X pins σ H s → t D σ H → wpAny (model X.prog X.w) X.A (execs st X.env) (SP X pins D) X.xe s
theorem thn {α : Type} {t : Sem α} {Q Q' : α → Shared → Prop} {M : Model} {A : Around} {E : Value → Shared → Prop} {s : Shared} (h : wpAny M A t Q E s) (hQ : ∀ a s, Q a s → Q' a s) : wpAny M A t Q' E s := wpAny_mono h hQ fun _ _ x => x
end L2
namespace L2
open PySem PySem.Spec PyProof.Rows
section
variable {X : Cx}
theorem bin {a b : Expr} {ta tb : TE} (ha : PE X a ta) (hb : PE X b tb) {pins : List (Addr × Obj)} {s : Shared} {σ : St} {H : Hp} {R : V → V → Hp → Prop} (I : Inv X pins σ H s) (h : ta σ H fun x H1 => tb σ H1 fun y H2 => R x y H2)
  {α : Type} {Q : α → Shared → Prop} {f : Value → Value → Sem α}
  (hf : ∀ v u s2 x y H2, Inv X pins σ H2 s2 → RelV x v → RelV y u → R x y H2 → wpAny (model X.prog X.w) X.A (f v u) Q X.xe s2) :
  wpAny (model X.prog X.w) X.A (eval a X.env) (fun v s₁ => wpAny (model X.prog X.w) X.A (eval b X.env) (fun u s₂ => wpAny (model X.prog X.w) X.A (f v u) Q X.xe s₂) X.xe s₁) X.xe s := by
 refine thn (ha pins s σ H _ I h) fun v s1 hZ_ => ?_
 obtain ⟨x, H1, I1, r1, q1⟩ := hZ_
 refine thn (hb pins s1 σ H1 _ I1 q1) fun u s2 hZ_ => ?_
 obtain ⟨y, H2, I2, r2, q2⟩ := hZ_
 exact hf v u s2 x y H2 I2 r1 r2 q2
noncomputable def tVar (i : Nat) : TE := fun σ H Q => ∃ v, σ[i]? = some (some v) ∧ Q v H
noncomputable def tC (v : V) : TE := fun _ H Q => Q v H
theorem pe_var {i : Nat} {x : Str} {pos : Pos} (hN : X.N[i]? = some x) (hv : Vis X.env.scope x) (hd : (x == ("__debug__" : Str)) = false := by decide) (hcd : (x == ("__classdict__" : Str)) = false := by decide) : PE X (.Name x pos) (tVar i) := by
 intro pins s σ H Q I h
 obtain ⟨v, e, h⟩ := h
 obtain ⟨m, hn, hl⟩ := I.loc
 obtain ⟨u, r, l⟩ := hl i x v hN e hv
 have fin : EP X pins σ Q u s := ⟨v, H, I, r, h⟩
 rcases l with ⟨hk, hm⟩ | ⟨hk, c, hc, hcell⟩
 ·exact wpAny_Name (wpAny_loadName_local I.ok.kind hk hn hm fin) hd
 ·rcases hk with hk | hk
  ·exact wpAny_Name (wpAny_loadName_cell I.ok.kind hk hc hcell fin) hd
  ·exact wpAny_Name (wpAny_loadName_free I.ok.kind hk hc hcell fin hcd) hd
theorem pe_int {i j pos} : PE X (.Constant (.int i) j pos) (tC (.int i)) := fun _ _ _ H _ I h => wpAny_Constant_int ⟨.int i, H, I.tok _, ⟨_, rfl⟩, h⟩
theorem pe_bl {b j pos} : PE X (.Constant (.bool b) j pos) (tC (.bl b)) := fun _ _ _ H _ I h => Constant_bool ⟨.bl b, H, I, rfl, h⟩
theorem pe_non {j pos} : PE X (.Constant .none j pos) (tC .non) := fun _ _ _ H _ I h => Constant_none ⟨.non, H, I, rfl, h⟩
theorem pe_str {x j pos} : PE X (.Constant (.str x) j pos) (tC (.str x)) := fun _ _ _ H _ I h => Calls.Constant_str ⟨.str x, H, I.tok _, ⟨_, rfl⟩, h⟩
noncomputable def Gl (X : Cx) (x : Str) : Prop := X.env.kindOf x = some .globalImplicit
theorem ld_glob {E : Value → Shared → Prop} {pins : List (Addr × Obj)} {s : Shared} {σ : St} {H : Hp} {x : Str} {u : Value} {pos : Pos} {Q : Value → Shared → Prop} (I : Inv X pins σ H s) (hg : Gl X x) (hm : X.mg x = some u) (h : Q u s)
  (hd : (x == ("__debug__" : Str)) = false := by decide) : wpAny (model X.prog X.w) X.A (eval (.Name x pos) X.env) Q E s :=
 Calls.Name_function_global I.ok.kind hg (Calls.loadGlobal_global (by rw [I.ok.glob]; exact I.mod.glob.keeps I.bk) hm h) hd
theorem ld_blt {E : Value → Shared → Prop} {pins : List (Addr × Obj)} {s : Shared} {σ : St} {H : Hp} {x : Str} {u : Value} {pos : Pos} {Q : Value → Shared → Prop} (I : Inv X pins σ H s) (hg : Gl X x) (hm : X.mg x = none) (hv : bootBuiltins x = some u) (h : Q u s)
  (hn : x ≠ "__name__" := by decide) (hd : (x == ("__debug__" : Str)) = false := by decide) : wpAny (model X.prog X.w) X.A (eval (.Name x pos) X.env) Q E s := by
 obtain ⟨mb, h1, h2⟩ := I.mod.blt
 exact Calls.Name_function_global I.ok.kind hg (Calls.loadGlobal_builtin (by rw [I.ok.glob]; exact I.mod.glob.keeps I.bk) hm (by rw [I.ok.blt]; exact h1.keeps I.bk) ((h2 x hn).trans hv) h) hd
theorem pe_glob {x : Str} {v : V} {u : Value} {pos : Pos} (hg : Gl X x) (hm : X.mg x = some u) (r : RelV v u) (hd : (x == ("__debug__" : Str)) = false := by decide) : PE X (.Name x pos) (tC v) :=
 fun _ _ _ H _ I h => ld_glob I hg hm ⟨v, H, I, r, h⟩ hd
theorem pe_bltn {x : Str} {v : V} {u : Value} {pos : Pos} (hg : Gl X x) (hm : X.mg x = none) (hv : bootBuiltins x = some u) (r : RelV v u) (hn : x ≠ "__name__" := by decide) (hd : (x == ("__debug__" : Str)) = false := by decide) : PE X (.Name x pos) (tC v) :=
 fun _ _ _ H _ I h => ld_blt I hg hm hv ⟨v, H, I, r, h⟩ hn hd
variable {a b : Expr} {ta tb : TE} {pos : Pos}
variable {tA tB' : TT} {rest : List Expr}
noncomputable def tAnd (t u : TT) : TT := fun σ H Q => t σ H fun c H1 => if c = true then u σ H1 Q else Q false H1
noncomputable def tOr (t u : TT) : TT := fun σ H Q => t σ H fun c H1 => if c = true then Q true H1 else u σ H1 Q
noncomputable def tNot (t : TT) : TT := fun σ H Q => t σ H fun c H1 => Q (!c) H1
theorem pw_and1 (ha : PT X a tA) : PW X (.BoolOp .And [a] pos) tA := by
 intro wh pins s σ H Q I h
 refine isTrue_and (thn (ha pins s σ H Q I h) fun c s1 e => ?_)
 cases c with
 | true => exact isTrue_and_nil e
 | false => exact e
theorem pw_or1 (ha : PT X a tA) : PW X (.BoolOp .Or [a] pos) tA := by
 intro wh pins s σ H Q I h
 refine isTrue_or (thn (ha pins s σ H Q I h) fun c s1 e => ?_)
 cases c with
 | false => exact isTrue_or_nil e
 | true => exact e
theorem pw_and (ha : PT X a tA) (hb : PW X (.BoolOp .And (b :: rest) pos) tB') : PW X (.BoolOp .And (a :: b :: rest) pos) (tAnd tA tB') := by
 intro wh pins s σ H Q I h
 refine isTrue_and (thn (ha pins s σ H _ I h) fun c s1 hZ_ => ?_)
 obtain ⟨H1, I1, q1⟩ := hZ_
 cases c with
 | true => exact hb wh pins s1 σ H1 Q I1 q1
 | false => exact ⟨H1, I1, q1⟩
theorem pw_or (ha : PT X a tA) (hb : PW X (.BoolOp .Or (b :: rest) pos) tB') : PW X (.BoolOp .Or (a :: b :: rest) pos) (tOr tA tB') := by
 intro wh pins s σ H Q I h
 refine isTrue_or (thn (ha pins s σ H _ I h) fun c s1 hZ_ => ?_)
 obtain ⟨H1, I1, q1⟩ := hZ_
 cases c with
 | true => exact ⟨H1, I1, q1⟩
 | false => exact hb wh pins s1 σ H1 Q I1 q1
theorem pt_not (ha : PT X a tA) : PT X (.UnaryOp .Not a pos) (tNot tA) := by
 intro pins s σ H Q I h
 exact isTrue_not (ha pins s σ H (fun c H1 => Q (!c) H1) I h)
noncomputable def tAndV (ta tb : TE) : TE := fun σ H Q => ta σ H fun x H1 => ∃ c, x = .bl c ∧ if c = true then tb σ H1 Q else Q (.bl false) H1
noncomputable def tOrV (ta tb : TE) : TE := fun σ H Q => ta σ H fun x H1 => ∃ c, x = .bl c ∧ if c = true then Q (.bl true) H1 else tb σ H1 Q
noncomputable def tNotV (ta : TE) : TE := fun σ H Q => ta σ H fun x H1 => ∃ c, x = .bl c ∧ Q (.bl (!c)) H1
theorem pe_one {op} {t : TE} (h : PE X a t) : PE X (.BoolOp op [a] pos) t := fun pins s σ H Q I hw => BoolOp_one (h pins s σ H Q I hw)
theorem pe_and (ha : PE X a ta) (hb : PE X (.BoolOp .And (b :: rest) pos) tb) : PE X (.BoolOp .And (a :: b :: rest) pos) (tAndV ta tb) := by
 intro pins s σ H Q I h
 refine BoolOp_and (thn (ha pins s σ H _ I h) fun v s1 hZ_ => ?_)
 obtain ⟨x, H1, I1, r1, q1⟩ := hZ_
 obtain ⟨c, rfl, q1⟩ := q1
 cases r1
 refine wpAny_truthy_bool ?_
 cases c with
 | true => exact hb pins s1 σ H1 Q I1 q1
 | false => exact ⟨.bl false, H1, I1, rfl, q1⟩
theorem pe_or (ha : PE X a ta) (hb : PE X (.BoolOp .Or (b :: rest) pos) tb) : PE X (.BoolOp .Or (a :: b :: rest) pos) (tOrV ta tb) := by
 intro pins s σ H Q I h
 refine BoolOp_or (thn (ha pins s σ H _ I h) fun v s1 hZ_ => ?_)
 obtain ⟨x, H1, I1, r1, q1⟩ := hZ_
 obtain ⟨c, rfl, q1⟩ := q1
 cases r1
 refine wpAny_truthy_bool ?_
 cases c with
 | false => exact hb pins s1 σ H1 Q I1 q1
 | true => exact ⟨.bl true, H1, I1, rfl, q1⟩
theorem pe_not (ha : PE X a ta) : PE X (.UnaryOp .Not a pos) (tNotV ta) := by
 intro pins s σ H Q I h
 refine UnaryOp_ (thn (ha pins s σ H _ I h) fun v s1 hZ_ => ?_)
 obtain ⟨x, H1, I1, r1, q1⟩ := hZ_
 obtain ⟨c, rfl, q1⟩ := q1
 cases r1
 exact not_of (wpAny_truthy_bool ⟨.bl (!c), H1, I1, rfl, q1⟩)
noncomputable def tIf (t : TT) (ta tb : TE) : TE := fun σ H Q => t σ H fun c H1 => if c = true then ta σ H1 Q else tb σ H1 Q
theorem pe_ifExp {c : Expr} (hc : PT X c tA) (ha : PE X a ta) (hb : PE X b tb) : PE X (.IfExp c a b pos) (tIf tA ta tb) := by
 intro pins s σ H Q I h
 refine wpAny_IfExp (thn (hc pins s σ H _ I h) fun d s1 hZ_ => ?_)
 obtain ⟨H1, I1, q1⟩ := hZ_
 cases d with
 | true => exact ha pins s1 σ H1 Q I1 q1
 | false => exact hb pins s1 σ H1 Q I1 q1
end
end L2
namespace L2
open PySem PySem.Spec PyProof.Rows
noncomputable def SqL (K : PySem.W.Frag) (H : Hp) (a : Addr) (xs : List V) : Prop :=
 Rd H a (.lst xs) ∨
  ∃ (o : Obj) (its : Array Value) (n : Nat), K.lookup a = some o ∧ o.cls = .type "list" ∧ o.dict = none ∧ o.data = .seq its n ∧ its.size ≤ sizeLine ∧ Vals xs its.toList
noncomputable def SqT (K : PySem.W.Frag) (H : Hp) (a : Addr) (xs : List V) : Prop :=
 Rd H a (.tup xs) ∨
  ∃ (o : Obj) (its : Array Value) (n : Nat), K.lookup a = some o ∧ o.cls = .type "tuple" ∧ o.data = .seq its n ∧ its.size ≤ sizeLine ∧ Vals xs its.toList
noncomputable def absV : Value → Option V
 | .none => some .non
 | .bool b => some (.bl b)
 | .int i _ => some (.int i)
 | .str x _ => some (.str x)
 | .bytes b _ => some (.byt b)
 | .float b _ => some (.flt b)
 | .ref a => some (.ref a)
 | .type n => some (.ty n)
 | _ => none
theorem RelV.abs {x : V} {u : Value} (r : RelV x u) : absV u = some x := by
 cases x with
 | non => cases r; rfl
 | bl _ => cases r; rfl
 | int _ => obtain ⟨t, rfl⟩ := r; rfl
 | str _ => obtain ⟨t, rfl⟩ := r; rfl
 | byt _ => obtain ⟨t, rfl⟩ := r; rfl
 | flt _ => obtain ⟨t, rfl⟩ := r; rfl
 | ref _ => cases r; rfl
 | ty _ => cases r; rfl
theorem RelV.inj {x y : V} {u : Value} (r : RelV x u) (q : RelV y u) : x = y := Option.some.inj (r.abs.symm.trans q.abs)
theorem Vals.inj : ∀ {xs ys : List V} {us : List Value}, Vals xs us → Vals ys us → xs = ys := by
 intro xs ys us h
 induction h generalizing ys with
 | nil => intro h'; cases h'; rfl
 | cons r t ih => intro h'; cases h' with | cons r' t' => rw [r.inj r', ih t']
section
variable {X : Cx} {pins : List (Addr × Obj)} {σ : St} {H : Hp} {s : Shared} {a : Addr} {xs ys : List V}
theorem SqT.of {K : PySem.W.Frag} (h : H a = some (.tup xs)) : SqT K H a xs := .inl (.inl h)
theorem Inv.list (I : Inv X pins σ H s) (h : SqL X.K H a xs) : ∃ its : List Value, Vals xs its ∧ PlainL s.heap a its.toArray ∧ xs.length ≤ sizeLine := by
 rcases h with h | ⟨o, its, n, hk, hc, hd, hs, hz, r⟩
 ·obtain ⟨z, its, n, r, e⟩ := h.ok I.hok
  exact ⟨its, r, ⟨_, n, e, rfl, rfl, rfl⟩, z⟩
 ·refine ⟨its.toList, r, ⟨o, n, I.kIn a o hk, hc, hd, by simpa using hs⟩, ?_⟩
  have e := r.length
  simp only [Array.length_toList] at e
  omega
theorem Inv.tuple (I : Inv X pins σ H s) (h : SqT X.K H a xs) : ∃ its : List Value, Vals xs its ∧ IsTup s.heap a its.toArray ∧ xs.length ≤ sizeLine := by
 rcases h with h | ⟨o, its, n, hk, hc, hs, hz, r⟩
 ·obtain ⟨z, its, r, p⟩ := h.ok I.hok
  exact ⟨its, r, p, z⟩
 ·refine ⟨its.toList, r, ⟨o, I.kIn a o hk, hc, n, by simpa using hs⟩, ?_⟩
  have e := r.length
  simp only [Array.length_toList] at e
  omega
theorem Inv.list_inj (I : Inv X pins σ H s) (h : SqL X.K H a xs) (h' : SqL X.K H a ys) : xs = ys := by
 obtain ⟨its, r, ⟨o, n, e, _, _, d⟩, _⟩ := I.list h
 obtain ⟨its', r', ⟨o', n', e', _, _, d'⟩, _⟩ := I.list h'
 rw [e] at e'; cases e'
 rw [d] at d'
 injection d' with d1 _
 have : its = its' := by simpa using congrArg Array.toList d1
 subst this
 exact r.inj r'
theorem Inv.tuple_inj (I : Inv X pins σ H s) (h : SqT X.K H a xs) (h' : SqT X.K H a ys) : xs = ys := by
 obtain ⟨its, r, ⟨o, e, _, n, d⟩, _⟩ := I.tuple h
 obtain ⟨its', r', ⟨o', e', _, n', d'⟩, _⟩ := I.tuple h'
 rw [e] at e'; cases e'
 rw [d] at d'
 injection d' with d1 _
 have : its = its' := by simpa using congrArg Array.toList d1
 subst this
 exact r.inj r'
end
abbrev Cx.wish (X : Cx) (E : Value → Shared → Prop) : Cx := { X with xe := E }
abbrev Cx.nox (X : Cx) : Cx := X.wish fun _ _ => False
theorem Cx.Ok.wish {X : Cx} (ok : X.Ok) (E : Value → Shared → Prop) : (X.wish E).Ok :=
 ⟨ok.mod, ok.kind, ok.glob, ok.blt, ok.above, ok.inj, ok.has, ok.cab, ok.hd, ok.frames, ok.stk, ok.exf, ok.bs, ok.bsz, ok.noex, ok.exfs, ok.funs, ok.frf⟩
theorem Cx.Ok.unwish {X : Cx} {E : Value → Shared → Prop} (ok : (X.wish E).Ok) : X.Ok :=
 ⟨ok.mod, ok.kind, ok.glob, ok.blt, ok.above, ok.inj, ok.has, ok.cab, ok.hd, ok.frames, ok.stk, ok.exf, ok.bs, ok.bsz, ok.noex, ok.exfs, ok.funs, ok.frf⟩
section
variable {X : Cx} {pins : List (Addr × Obj)} {σ : St} {H : Hp} {s : Shared} {E : Value → Shared → Prop}
theorem Inv.wish (I : Inv X pins σ H s) (E : Value → Shared → Prop) : Inv (X.wish E) pins σ H s := ⟨I.ok.wish E, I.os, I.bare, I.base, I.loc, I.cell, I.free, I.freeC, I.pin, I.hok, I.len⟩
theorem Inv.unwish (I : Inv (X.wish E) pins σ H s) : Inv X pins σ H s := ⟨I.ok.unwish, I.os, I.bare, I.base, I.loc, I.cell, I.free, I.freeC, I.pin, I.hok, I.len⟩
theorem SP.unwish {D : Ends} {f : Flow} {s' : Shared} (h : SP (X.wish E) pins D f s') : SP X pins D f s' := by
 cases f with
 | next => obtain ⟨σ', H', I, q⟩ := h; exact ⟨σ', H', I.unwish, q⟩
 | brk => obtain ⟨σ', H', I, q⟩ := h; exact ⟨σ', H', I.unwish, q⟩
 | cont => obtain ⟨σ', H', I, q⟩ := h; exact ⟨σ', H', I.unwish, q⟩
 | ret u => obtain ⟨v, σ', H', I, r, q⟩ := h; exact ⟨v, σ', H', I.unwish, r, q⟩
theorem PSs.nox {st : List Stmt} {t : TS} (h : PSs X.nox st t) : PSs X st t := fun pins s σ H D I hw =>
 wpAny_mono (h pins s σ H D (I.wish _) hw) (fun _ _ q => q.unwish) fun _ _ z => False.elim z
end
section
variable {X : Cx} {st : Stmt} {rest : List Stmt} {t u : TS} {e : Expr} {te : TE} {pos : Pos}
noncomputable def tNext : TS := fun D σ H => D.nx σ H
noncomputable def tSeq (t u : TS) : TS := fun D σ H => t { D with nx := u D } σ H
theorem pss_nil : PSs X [] tNext := fun _ _ σ H _ I h => wpAny_execs_nil ⟨σ, H, I, h⟩
theorem pss_cons (h1 : PS X st t) (h2 : PSs X rest u) : PSs X (st :: rest) (tSeq t u) := by
 intro pins s σ H D I h
 refine wpAny_execs_cons (thn (h1 pins s σ H { D with nx := u D } I h) fun f s1 q => ?_)
 cases f with
 | next =>
  obtain ⟨σ', H', I', q⟩ := q
  exact h2 pins s1 σ' H' D I' q
 | ret v => exact q
 | brk => exact q
 | cont => exact q
noncomputable def tBreak : TS := fun D σ H => D.bk σ H
noncomputable def tCont : TS := fun D σ H => D.ct σ H
theorem ps_pass : PS X (.Pass pos) tNext := fun _ _ σ H _ I h => wpAny_Pass ⟨σ, H, I, h⟩
theorem ps_break : PS X (.Break pos) tBreak := fun _ _ σ H _ I h => wpAny_Break ⟨σ, H, I, h⟩
theorem ps_continue : PS X (.Continue pos) tCont := fun _ _ σ H _ I h => wpAny_Continue ⟨σ, H, I, h⟩
theorem Inv.quiet {pins : List (Addr × Obj)} {σ : St} {H : Hp} {s : Shared} (I : Inv X pins σ H s) : interactive X.env = false := by simp [interactive, I.ok.kind]
noncomputable def tDrop (te : TE) : TS := fun D σ H => te σ H fun _ H1 => D.nx σ H1
theorem ps_expr (he : PE X e te) (hs : swapsWith e none pos.line X.env = pure false := by rfl) : PS X (.Expr e pos) (tDrop te) := by
 intro pins s σ H D I h
 exact wpAny_Expr_any (thn (he pins s σ H _ I h) fun v s1 ⟨x, H1, I1, r1, q1⟩ => ⟨σ, H1, I1, q1⟩) I.quiet hs
noncomputable def tRet (te : TE) : TS := fun D σ H => te σ H D.rt
theorem ps_ret (he : PE X e te) : PS X (.Return (some e) pos) (tRet te) := by
 intro pins s σ H D I h
 exact wpAny_Return_some (thn (he pins s σ H _ I h) fun v s1 ⟨x, H1, I1, r1, q1⟩ => ⟨x, σ, H1, I1, r1, q1⟩)
noncomputable def tRetN : TS := fun D _ H => D.rt .non H
theorem ps_retN : PS X (.Return none pos) tRetN := fun _ _ σ H _ I h => wpAny_Return_none ⟨.non, σ, H, I, rfl, h⟩
noncomputable def tIfS (c : TT) (t u : TS) : TS := fun D σ H => c σ H fun b H1 => if b = true then t D σ H1 else u D σ H1
theorem ps_if {c : Expr} {a b : List Stmt} {tc : TT} (hc : PT X c tc) (ha : PSs X a t) (hb : PSs X b u) : PS X (.If c a b pos) (tIfS tc t u) := by
 intro pins s σ H D I h
 refine wpAny_If (thn (hc pins s σ H _ I h) fun d s1 hZ_ => ?_)
 obtain ⟨H1, I1, q1⟩ := hZ_
 cases d with
 | true => exact ha pins s1 σ H1 D I1 q1
 | false => exact hb pins s1 σ H1 D I1 q1
noncomputable def tNever : TS := fun _ _ _ => False
theorem ps_never : PS X st tNever := fun _ _ _ _ _ _ h => h.elim
end
abbrev TG := V → St → Hp → (St → Hp → Prop) → Prop
abbrev TGs := List V → St → Hp → (St → Hp → Prop) → Prop
noncomputable def PG (X : Cx) (target : Expr) (t : TG) : Prop :=
 ∀ (pins : List (Addr × Obj)) (s : Shared) (σ : St) (H : Hp) (v : V) (u : Value) (Q : St → Hp → Prop), Inv X pins σ H s → RelV v u → t v σ H Q →
  wpAny (model X.prog X.w) X.A (assign target X.env u) (fun _ s' => ∃ σ' H', Inv X pins σ' H' s' ∧ Q σ' H') X.xe s
noncomputable def PGs (X : Cx) (ts : List Expr) (t : TGs) : Prop :=
 ∀ (pins : List (Addr × Obj)) (s : Shared) (σ : St) (H : Hp) (vs : List V) (us : List Value) (Q : St → Hp → Prop), Inv X pins σ H s → Vals vs us → t vs σ H Q →
  wpAny (model X.prog X.w) X.A (assignInOrder ((assignEach ts X.env).map (·.2)) us) (fun _ s' => ∃ σ' H', Inv X pins σ' H' s' ∧ Q σ' H') X.xe s
abbrev TSet := V → V → V → Hp → (Hp → Prop) → Prop
noncomputable def PSet (X : Cx) (t : TSet) : Prop :=
 ∀ (pins : List (Addr × Obj)) (s : Shared) (σ : St) (H : Hp) (o i v : V) (ov iv u : Value) (Q : Hp → Prop), Inv X pins σ H s → RelV o ov → RelV i iv → RelV v u → t o i v H Q →
  wpAny (model X.prog X.w) X.A (setItem ov iv u) (fun _ s' => ∃ H', Inv X pins σ H' s' ∧ Q H') X.xe s
section
variable {X : Cx} {pos : Pos}
noncomputable def gName (i : Nat) : TG := fun v σ H Q => Q (σ.set i (some v)) H
theorem pg_name {i : Nat} {x : Str} (hN : X.N.Nodup) (hi : X.N[i]? = some x) (hx : Loc X.env.scope x) (hf : X.fn x = true ∨ X.env.scope.names.lookup x = some .local := by first | exact .inl rfl | exact .inr rfl | assumption) : PG X (.Name x pos) (gName i) := by
 intro pins s σ H v u Q I r h
 exact wpAny_assign_Name (store_ok I hN hi hx r (fun s' I' => ⟨_, H, I', h⟩) hf)
noncomputable def gNil : TGs := fun vs σ H Q => vs = [] ∧ Q σ H
noncomputable def gCons (t : TG) (u : TGs) : TGs := fun vs σ H Q => ∃ v r, vs = v :: r ∧ t v σ H fun σ' H' => u r σ' H' Q
theorem pgs_nil : PGs X [] gNil := by
 intro pins s σ H vs us Q I r h
 obtain ⟨e, h⟩ := h
 subst e
 cases r
 exact assignInOrder_nil ⟨σ, H, I, h⟩
theorem pgs_cons {e : Expr} {es : List Expr} {t : TG} {u : TGs} (h1 : PG X e t) (h2 : PGs X es u)
  (hs : (assignEach (e :: es) X.env).map (·.2) = assign e X.env :: (assignEach es X.env).map (·.2) := by rfl) : PGs X (e :: es) (gCons t u) := by
 intro pins s σ H vs us Q I r h
 obtain ⟨v, vr, e1, h⟩ := h
 subst e1
 cases r with
 | cons r rr =>
  rw [hs]
  refine assignInOrder_cons (thn (h1 pins s σ H _ _ _ I r h) fun _ s1 hZ_ => ?_)
  obtain ⟨σ1, H1, I1, q1⟩ := hZ_
  exact h2 pins s1 σ1 H1 _ _ Q I1 rr q1
noncomputable def gTup (K : PySem.W.Frag) (n : Nat) (t : TGs) : TG := fun v σ H Q => ∃ a xs, v = .ref a ∧ SqT K H a xs ∧ xs.length = n ∧ t xs σ H Q
theorem pg_tup {es : List Expr} {k : Nat} {t : TGs} {n : Nat} (hc : X.calm = true) (h : PGs X es t)
  (hn : (assignEach es X.env).length = n := by rfl) (hst : (assignEach es X.env).findIdx? (·.1) = none := by rfl) : PG X (.Tuple es k pos) (gTup X.K n t) := by
 intro pins s σ H v u Q I r hw
 obtain ⟨a, xs, e1, hq, hl, hw⟩ := hw
 subst e1
 cases r
 obtain ⟨its, rv, ht, hz⟩ := I.tuple hq
 refine assign_Tuple_tuple (I.ok.hd hc) ht (by simp [hn, ← hl, rv.length]) hst fun h' hx => ?_
 have I1 : Inv X pins σ H { s with heap := h' } := I.kept (t' := s.toks) fun b o e => hx b o (Nat.ne_of_lt (Heap.lt_size e)) e
 exact h pins _ σ H xs _ Q I1 (by simpa using rv) hw
noncomputable def gSub (to ti : TE) (t : TSet) : TG := fun v σ H Q => to σ H fun o H1 => ti σ H1 fun i H2 => t o i v H2 fun H3 => Q σ H3
theorem pg_sub {o i : Expr} {to ti : TE} {t : TSet} (ho : PE X o to) (hi : PE X i ti) (hs : PSet X t)
  (ha : ∀ v, assign (.Subscript o i pos) X.env v = (do
   let ov ← holding [v] (eval o X.env)
   let iv ← holding [v, ov] (eval i X.env)
   standAt pos
   holding [v, ov, iv] (setItem ov iv v)
   release [v, ov, iv] []) := by intro _; rfl) : PG X (.Subscript o i pos) (gSub to ti t) := by
 intro pins s σ H v u Q I r h
 rw [ha]
 refine wpAny_bind (wpAny_holding (thn (ho pins s σ H _ I h) fun ov s1 hZ_ => ?_))
 obtain ⟨x, H1, I1, r1, q1⟩ := hZ_
 refine wpAny_bind (wpAny_holding (thn (hi pins s1 σ H1 _ I1 q1) fun iv s2 hZ_ => ?_))
 obtain ⟨y, H2, I2, r2, q2⟩ := hZ_
 refine wpAny_bind (wpAny_standAt (wpAny_bind (wpAny_holding (thn (hs pins s2 σ H2 x y v ov iv u _ I2 r1 r2 r q2) fun _ s3 hZ_ => ?_))))
 obtain ⟨H3, I3, q3⟩ := hZ_
 exact wpAny_release ⟨σ, H3, I3, q3⟩
noncomputable def tAsg (te : TE) (g : TG) : TS := fun D σ H => te σ H fun x H1 => g x σ H1 D.nx
theorem ps_asg {tg e : Expr} {te : TE} {g : TG} (he : PE X e te) (hg : PG X tg g) (hs : swapsWithSole [tg] e pos.line X.env = pure false := by rfl) (hw : swappedStores [tg] e X.env = pure none := by rfl)
  (h1 : (assignEach [tg] X.env).map (·.2) = [assign tg X.env] := by rfl) : PS X (.Assign [tg] e pos) (tAsg te g) := by
 intro pins s σ H D I h
 refine wpAny_Assign_stores (thn (he pins s σ H _ I h) fun v s1 hZ_ => ?_) hs hw
 obtain ⟨x, H1, I1, r1, q1⟩ := hZ_
 rw [h1]
 exact thn (hg pins s1 σ H1 x v _ I1 r1 q1) fun _ s2 q => q
theorem ps_set {i : Nat} {x : Str} {e : Expr} {te : TE} {pos' : Pos} (hN : X.N.Nodup) (hi : X.N[i]? = some x) (hx : Loc X.env.scope x) (he : PE X e te) (hs : swapsWith e (some (.Name x pos')) pos.line X.env = pure false := by rfl) (hf : X.fn x = true ∨ X.env.scope.names.lookup x = some .local := by first | exact .inl rfl | exact .inr rfl | assumption) :
  PS X (.Assign [.Name x pos'] e pos) (tAsg te (gName i)) := by
 intro pins s σ H D I h
 refine wpAny_Assign_Name (thn (he pins s σ H _ I h) fun v s1 hZ_ => ?_) hs
 obtain ⟨y, H1, I1, r1, q1⟩ := hZ_
 exact store_ok I1 hN hi hx r1 (fun s2 I2 => ⟨_, H1, I2, q1⟩) hf
end
section
variable {X : Cx} {pos : Pos}
end
set_option genInjectivity false in
structure It where
  go : Nat → Hp → Prop
  yld : Nat → Hp → V → Hp → Prop
  stop : Nat → Hp → Prop
noncomputable def FpOk (X : Cx) (pins : List (Addr × Obj)) (H : Hp) (b : Addr) : Prop :=
  H b = none ∧ b ≠ X.env.locals ∧ b ∉ X.fs ∧ (b ∈ X.ex ∨ X.s₀.heap.objs.size ≤ b) ∧ (∀ x c, X.env.cells.lookup x = some c → c ≠ b) ∧ ∀ p ∈ X.pn ++ pins, p.1 ≠ b
theorem Inv.fpOk {X : Cx} {pins : List (Addr × Obj)} {σ : St} {H H' : Hp} {s : Shared} {b : Addr} (I : Inv X pins σ H s) (hb : s.heap.objs.size ≤ b) (hn : H' b = none) : FpOk X pins H' b := by
  refine ⟨hn, Nat.ne_of_gt (Nat.lt_of_lt_of_le I.lt hb), I.nofs hb, .inr (Nat.le_trans I.sz hb), fun x c e z => ?_, fun p hp z => ?_⟩
  · obtain ⟨v, q⟩ := I.cell x c e
    exact absurd (Nat.lt_of_lt_of_le q.lt (by rw [z]; exact hb)) (Nat.lt_irrefl _)
  · exact absurd (Nat.lt_of_lt_of_le (Heap.lt_size (I.pin p hp).1) (by rw [z]; exact hb)) (Nat.lt_irrefl _)
structure Turn (P : Program) (w : World) (K : PySem.W.Frag) (tg : Expr) (J : It) (fp : List Addr) (it : Addr) (tn : Nat → Heap → Prop) : Prop where
  mem : it ∈ fp
  obj : ∀ i h, tn i h → ∀ b ∈ fp, ∃ o, h.get? b = some o ∧ ∀ v, o.data ≠ .cell v
  keep : ∀ i h h', tn i h → (∀ b ∈ fp, ∀ o, h.get? b = some o → h'.get? b = some o) → tn i h'
  item : ∀ (X : Cx), X.prog = P → X.w = w → X.K = K → X.calm = true → ∀ (i : Nat) (pins : List (Addr × Obj)) (s : Shared) (σ : St) (H : Hp) (E : Value → Shared → Prop), Inv X pins σ H s → (∀ b ∈ fp, FpOk X pins H b) → tn i s.heap → J.go i H →
    wpAny (model P w) X.A (pyNext (.ref it)) (fun r s1 => ∃ u, r = some u ∧
      wpAny (model P w) X.A (letOwnedTupleGo tg (.ref it) u) (fun _ s2 => ∃ x H', Inv X pins σ H' s2 ∧ RelV x u ∧ J.yld i H x H' ∧ tn (i + 1) s2.heap ∧ ∀ b ∈ fp, H' b = none) E s1) E s
  done : ∀ (X : Cx), X.prog = P → X.w = w → X.K = K → X.calm = true → ∀ (i : Nat) (pins : List (Addr × Obj)) (s : Shared) (σ : St) (H : Hp) (E : Value → Shared → Prop), Inv X pins σ H s → (∀ b ∈ fp, FpOk X pins H b) → tn i s.heap → J.stop i H →
    wpAny (model P w) X.A (pyNext (.ref it)) (fun r s1 => r = none ∧ Inv X pins σ H s1) E s
  self : ∀ (A : Around) (i : Nat) (s : Shared) (Q : Value → Shared → Prop) (E : Value → Shared → Prop), tn i s.heap → Q (.ref it) s → wpAny (model P w) A (pyIter (.ref it)) Q E s
abbrev TI := St → Hp → (It → Hp → Prop) → Prop
noncomputable def PIE (X : Cx) (pins : List (Addr × Obj)) (σ : St) (tg : Expr) (R : It → Hp → Prop) (itv : Value) (s2 : Shared) : Prop :=
  ∃ (it : Addr) (fp : List Addr) (tn : Nat → Heap → Prop) (J : It) (H' : Hp), itv = .ref it ∧ Inv X pins σ H' s2 ∧ Turn X.prog X.w X.K tg J fp it tn ∧ tn 0 s2.heap ∧ (∀ b ∈ fp, FpOk X pins H' b) ∧ R J H'
noncomputable def PI (X : Cx) (tg iter : Expr) (wi : TI) : Prop :=
  ∀ (pins : List (Addr × Obj)) (s : Shared) (σ : St) (H : Hp) (R : It → Hp → Prop), Inv X pins σ H s → wi σ H R →
    wpAny (model X.prog X.w) X.A (eval iter X.env) (fun v s1 => wpAny (model X.prog X.w) X.A (pyIter v) (PIE X pins σ tg R) X.xe s1) X.xe s
theorem go_of {M : Model} {A : Around} {E : Value → Shared → Prop} {s : Shared} {tg : Expr} {it : Addr} {u : Value} {o : Obj} {n : String} {vs : Array Value} {Q : Unit → Shared → Prop} (ho : s.heap.get? it = some o) (hc : o.cls = .type n) (hd : o.data = .fields vs)
    (hn : ["enumerate", "zip", "dict_itemiterator", "dict_reverseitemiterator", "odict_iterator", "itertools.zip_longest", "itertools.pairwise"].contains n = false) (hQ : Q () s) : wpAny M A (letOwnedTupleGo tg (.ref it) u) Q E s := by
  unfold letOwnedTupleGo
  cases tg <;> first
    | exact wpAny_pure hQ
    | (cases u <;> first
        | exact wpAny_pure hQ
        | (refine wpAny_bind (wpAny_load ho ?_)
           rw [hc, hd]
           show wpAny M A (if (["enumerate", "zip", "dict_itemiterator", "dict_reverseitemiterator", "odict_iterator", "itertools.zip_longest", "itertools.pairwise"].contains n && vs[0]? == some (rawInt _)) = true then _ else _) Q E s
           rw [if_neg (by intro h; rw [hn, Bool.false_and] at h; cases h)]
           exact wpAny_pure hQ))
noncomputable def Itl (K : PySem.W.Frag) (a : Addr) : It :=
  ⟨fun i H => ∃ xs x, SqL K H a xs ∧ xs[i]? = some x, fun i H x H' => H' = H ∧ ∀ xs, SqL K H a xs → xs[i]? = some x, fun i H => ∃ xs, SqL K H a xs ∧ xs.length ≤ i⟩
noncomputable def Itt (K : PySem.W.Frag) (a : Addr) : It :=
  ⟨fun i H => ∃ xs x, SqT K H a xs ∧ xs[i]? = some x, fun i H x H' => H' = H ∧ ∀ xs, SqT K H a xs → xs[i]? = some x, fun i H => ∃ xs, SqT K H a xs ∧ xs.length ≤ i⟩
noncomputable def Itr (lo : Int) (n : Nat) : It := ⟨fun i _ => i < n, fun i H x H' => H' = H ∧ x = .int (lo + i), fun i _ => n ≤ i⟩
theorem turn_list {P : Program} {w : World} {K : PySem.W.Frag} {tg : Expr} (a it : Addr) : Turn P w K tg (Itl K a) [it] it (fun i h => h.IsListIter it a i) where
  mem := by simp
  obj := fun i h st b hb => by
    have e : b = it := by simpa using hb
    subst e
    obtain ⟨o, e, c, d⟩ := st
    exact ⟨o, e, fun v z => by rw [d] at z; cases z⟩
  keep := fun i h h' st k => st.at fun o e => k it (by simp) o e
  item := by
    intro X hP hw hK hc i pins s σ H E I hf st hg
    subst hP hw hK
    obtain ⟨xs, x, hq, hx⟩ := hg
    obtain ⟨its, rv, p, hz⟩ := I.list hq
    obtain ⟨u, hu, ru⟩ := rv.get hx
    obtain ⟨f0, f1, f2, f3, f4, f5⟩ := hf it (by simp)
    refine wpAny_pyNext_list_item st p.isList (x := u) (by simpa using hu) fun h' st' sb => ?_
    have I1 : Inv X pins σ H { s with heap := h' } := I.turned (t' := s.toks) (fun b o hb e => (sb.2 b hb).trans e) f0 f1 f3 f4 f5
    obtain ⟨o, e, c, d⟩ := id st'
    exact ⟨u, rfl, go_of (s := { s with heap := h' }) e c d (by decide) ⟨x, H, I1, ru, ⟨rfl, fun ys hy => by rw [I.list_inj hy hq]; exact hx⟩, st', fun b hb => (hf b hb).1⟩⟩
  done := by
    intro X hP hw hK hc i pins s σ H E I hf st hg
    subst hP hw hK
    obtain ⟨xs, hq, hx⟩ := hg
    obtain ⟨its, rv, p, hz⟩ := I.list hq
    obtain ⟨f0, f1, f2, f3, f4, f5⟩ := hf it (by simp)
    have hl := rv.length
    exact wpAny_pyNext_list_end (I.ok.hd hc) st p.isList (by simp; omega) fun h' eb => ⟨rfl, I.turned (t' := s.toks) (fun b o hb e => eb b o hb e) f0 f1 f3 f4 f5⟩
  self := fun _ _ _ _ _ st h => wpAny_pyIter_listiter st h
theorem turn_tuple {P : Program} {w : World} {K : PySem.W.Frag} {tg : Expr} (a it : Addr) : Turn P w K tg (Itt K a) [it] it (fun i h => h.IsTupleIter it a i) where
  mem := by simp
  obj := fun i h st b hb => by
    have e : b = it := by simpa using hb
    subst e
    obtain ⟨o, e, c, d⟩ := st
    exact ⟨o, e, fun v z => by rw [d] at z; cases z⟩
  keep := fun i h h' st k => st.at fun o e => k it (by simp) o e
  item := by
    intro X hP hw hK hc i pins s σ H E I hf st hg
    subst hP hw hK
    obtain ⟨xs, x, hq, hx⟩ := hg
    obtain ⟨its, rv, p, hz⟩ := I.tuple hq
    obtain ⟨u, hu, ru⟩ := rv.get hx
    obtain ⟨f0, f1, f2, f3, f4, f5⟩ := hf it (by simp)
    refine wpAny_pyNext_tuple_item st (show s.heap.IsTuple a its.toArray from p) (x := u) (by simpa using hu) fun h' st' sb => ?_
    have I1 : Inv X pins σ H { s with heap := h' } := I.turned (t' := s.toks) (fun b o hb e => (sb.2 b hb).trans e) f0 f1 f3 f4 f5
    obtain ⟨o, e, c, d⟩ := id st'
    exact ⟨u, rfl, go_of (s := { s with heap := h' }) e c d (by decide) ⟨x, H, I1, ru, ⟨rfl, fun ys hy => by rw [I.tuple_inj hy hq]; exact hx⟩, st', fun b hb => (hf b hb).1⟩⟩
  done := by
    intro X hP hw hK hc i pins s σ H E I hf st hg
    subst hP hw hK
    obtain ⟨xs, hq, hx⟩ := hg
    obtain ⟨its, rv, p, hz⟩ := I.tuple hq
    obtain ⟨f0, f1, f2, f3, f4, f5⟩ := hf it (by simp)
    have hl := rv.length
    exact wpAny_pyNext_tuple_end (I.ok.hd hc) st (show s.heap.IsTuple a its.toArray from p) (by simp; omega) fun h' eb => ⟨rfl, I.turned (t' := s.toks) (fun b o hb e => eb b o hb e) f0 f1 f3 f4 f5⟩
  self := fun _ _ _ _ _ st h => wpAny_pyIter_tupleiter st h
theorem turn_range {P : Program} {w : World} {K : PySem.W.Frag} {tg : Expr} (it : Addr) (lo : Int) (n : Nat) : Turn P w K tg (Itr lo n) [it] it (fun i h => IsRangeIter h it (lo + (i : Nat) * 1) ((n : Int) - (i : Nat)) 1) where
  mem := by simp
  obj := fun i h st b hb => by
    have e : b = it := by simpa using hb
    subst e
    exact ⟨_, st, fun v z => by
      have z' : Data.fields _ = Data.cell v := z
      cases z'⟩
  keep := fun i h h' st k => k it (by simp) _ st
  item := by
    intro X hP hw hK hc i pins s σ H E I hf st hg
    subst hP hw hK
    obtain ⟨f0, f1, f2, f3, f4, f5⟩ := hf it (by simp)
    have W := Walks.range (prog := X.prog) (w := X.w) (I.ok.hd hc) it lo 1 n
    refine W.item i s _ _ hg st fun v h' tk hv st' kk => ?_
    obtain ⟨t, rfl⟩ := hv
    have I1 : Inv X pins σ H { s with heap := h', toks := tk } := I.turned (fun b o hb e => kk b o (by simpa using hb) e) f0 f1 f3 f4 f5
    refine ⟨_, rfl, go_of (s := { s with heap := h', toks := tk }) (n := "range_iterator") st' rfl rfl (by decide) ⟨.int (lo + i), H, I1, ⟨t, ?_⟩, ⟨rfl, rfl⟩, st', fun b hb => (hf b hb).1⟩⟩
    rw [Int.mul_one]
  done := by
    intro X hP hw hK hc i pins s σ H E I hf st hg
    subst hP hw hK
    obtain ⟨f0, f1, f2, f3, f4, f5⟩ := hf it (by simp)
    exact wpAny_pyNext_range_end (I.ok.hd hc) st (by have : n ≤ i := hg; omega) fun h' eb => ⟨rfl, I.turned (t' := s.toks) (fun b o hb e => eb b o hb e) f0 f1 f3 f4 f5⟩
  self := fun _ _ _ _ _ st h => wpAny_pyIter_rangeiter st h
end L2
namespace L2
open PySem PySem.Spec PyProof.Rows
section
variable {X : Cx} {tg : Expr}
noncomputable def iList (K : PySem.W.Frag) (tl : TE) : TI := fun σ H R => tl σ H fun x H1 => ∃ a, x = .ref a ∧ (∃ xs, SqL K H1 a xs) ∧ R (Itl K a) H1
noncomputable def iTup (K : PySem.W.Frag) (tl : TE) : TI := fun σ H R => tl σ H fun x H1 => ∃ a, x = .ref a ∧ (∃ xs, SqT K H1 a xs) ∧ R (Itt K a) H1
theorem pi_list {l : Expr} {tl : TE} (hl : PE X l tl) : PI X tg l (iList X.K tl) := by
 intro pins s σ H R I h
 refine thn (hl pins s σ H _ I h) fun v s1 hZ_ => ?_
 obtain ⟨x, H1, I1, r1, q1⟩ := hZ_
 obtain ⟨a, e, ⟨xs, hq⟩, q⟩ := q1
 subst e
 cases r1
 obtain ⟨its, rv, p, hz⟩ := I1.list hq
 refine wpAny_pyIter_list p.isList ?_
 refine ⟨s1.heap.objs.size, [s1.heap.objs.size], _, _, H1, rfl, I1.kept (t' := s1.toks) fun b o e => Heap.get?_push_of_some _ e, turn_list a _, ⟨_, Heap.get?_push_size _ rfl, rfl, rfl⟩, fun b hb => ?_, q⟩
 have e : b = s1.heap.objs.size := by simpa using hb
 subst e
 exact I1.fpOk (Nat.le_refl _) (I1.hok.fresh (Nat.le_refl _))
theorem pi_tup {l : Expr} {tl : TE} (hl : PE X l tl) : PI X tg l (iTup X.K tl) := by
 intro pins s σ H R I h
 refine thn (hl pins s σ H _ I h) fun v s1 hZ_ => ?_
 obtain ⟨x, H1, I1, r1, q1⟩ := hZ_
 obtain ⟨a, e, ⟨xs, hq⟩, q⟩ := q1
 subst e
 cases r1
 obtain ⟨its, rv, p, hz⟩ := I1.tuple hq
 refine wpAny_pyIter_tuple (show s1.heap.IsTuple a its.toArray from p) ?_
 refine ⟨s1.heap.objs.size, [s1.heap.objs.size], _, _, H1, rfl, I1.kept (t' := s1.toks) fun b o e => Heap.get?_push_of_some _ e, turn_tuple a _, ⟨_, Heap.get?_push_size _ rfl, rfl, rfl⟩, fun b hb => ?_, q⟩
 have e : b = s1.heap.objs.size := by simpa using hb
 subst e
 exact I1.fpOk (Nat.le_refl _) (I1.hok.fresh (Nat.le_refl _))
theorem range_it {pins : List (Addr × Obj)} {σ : St} {H : Hp} {s : Shared} {R : It → Hp → Prop} {E : Value → Shared → Prop} {lo hi : Int} {t u v : Tok} {tk : Nat} (I : Inv X pins σ H s) (h1 : -(2 ^ 62) ≤ lo) (h2 : lo < 2 ^ 62) (h3 : -(2 ^ 62) ≤ hi) (h4 : hi < 2 ^ 62)
  (q : R (Itr lo (hi - lo).toNat) H) : wpAny (model X.prog X.w) X.A (pyIter (.ref s.heap.objs.size)) (PIE X pins σ tg R) E { s with heap := s.heap.push { cls := .type "range", data := .fields #[.int lo t, .int hi u, .int 1 v] }, toks := tk } := by
 refine wpAny_pyIter_range (IsRange.new ..) (small_one h1 h2 h3 h4) ?_
 have I1 : Inv X pins σ H { s with heap := s.heap.push { cls := .type "range", data := .fields #[.int lo t, .int hi u, .int 1 v] }, toks := tk } := I.kept fun b o e => Heap.get?_push_of_some _ e
 refine ⟨(s.heap.push { cls := .type "range", data := .fields #[.int lo t, .int hi u, .int 1 v] }).objs.size, [(s.heap.push { cls := .type "range", data := .fields #[.int lo t, .int hi u, .int 1 v] }).objs.size], _, _, H, rfl,
  I1.kept (t' := tk) fun b o e => Heap.get?_push_of_some _ e, turn_range _ lo (hi - lo).toNat, ?_, fun b hb => ?_, q⟩
 ·have e1 : lo + ((0 : Nat) : Int) * 1 = lo := by simp
  have e2 : (((hi - lo).toNat : Nat) : Int) - ((0 : Nat) : Int) = Builtin.Range.rangeSize lo hi 1 := by rw [rangeSize_one]; split <;> omega
  show IsRangeIter _ _ (lo + ((0 : Nat) : Int) * 1) ((((hi - lo).toNat : Nat) : Int) - ((0 : Nat) : Int)) 1
  rw [e1, e2]
  exact Heap.get?_push_size _ rfl
 ·have e : b = (s.heap.push { cls := .type "range", data := .fields #[.int lo t, .int hi u, .int 1 v] }).objs.size := by simpa using hb
  subst e
  exact I1.fpOk (Nat.le_refl _) (I1.hok.fresh (Nat.le_refl _))
noncomputable def iRng1 (ta : TA) : TI := fun σ H R => ta σ H fun vs H1 => ∃ j : Int, vs = [.int j] ∧ -(2 ^ 62) ≤ j ∧ j < 2 ^ 62 ∧ R (Itr 0 j.toNat) H1
theorem pi_range1 {a : Expr} {ta : TA} {p pos : Pos} (hg : Gl X "range") (hm : X.mg "range" = none) (ha : PA X [a] ta) (hs : starEach [a] X.env = [(false, eval a X.env)] := by rfl) : PI X tg (.Call (.Name "range" p) [a] [] pos) (iRng1 ta) := by
 intro pins s σ H R I h
 refine Call_ (ld_blt I hg hm boot_range (PyProof.Rows.callWith_type1 (thn (ha pos pins s σ H _ I h) fun us s1 hZ_ => ?_) hs rfl))
 obtain ⟨vs, H1, I1, r1, q1⟩ := hZ_
 obtain ⟨j, e, q1, q2, q⟩ := q1
 subst e
 cases r1 with
 | cons r rr =>
  cases rr
  obtain ⟨t, rfl⟩ := r
  exact call_range_1 (range_it I1 (by omega) (by omega) q1 q2 (by simpa using q))
noncomputable def tFor (wi : TI) (g : TG) (tb : TS) : TS := fun D σ H => wi σ H fun J H1 => ∃ W : Nat → Nat → St → Hp → Prop, (∃ m, W 0 m σ H1) ∧ ∀ i m σ H, W i m σ H →
 (J.stop i H ∧ D.nx σ H) ∨ (J.go i H ∧ ∃ N : St → Hp → Prop, (∀ σ' H', N σ' H' → ∃ m', m' < m ∧ W (i + 1) m' σ' H') ∧ ∀ x H', J.yld i H x H' → g x σ H' fun σ2 H2 => tb { D with nx := N, ct := N, bk := D.nx } σ2 H2)
noncomputable def pinsAt (fp : List Addr) (h : Heap) : List (Addr × Obj) := fp.filterMap fun b => (h.get? b).map fun o => (b, o)
theorem mem_pinsAt {fp : List Addr} {h : Heap} {b : Addr} {o : Obj} (hb : b ∈ fp) (e : h.get? b = some o) : (b, o) ∈ pinsAt fp h := List.mem_filterMap.mpr ⟨b, hb, by rw [e]; rfl⟩
theorem of_pinsAt {fp : List Addr} {h : Heap} {p : Addr × Obj} (hp : p ∈ pinsAt fp h) : p.1 ∈ fp ∧ h.get? p.1 = some p.2 := by
 obtain ⟨b, hb, e⟩ := List.mem_filterMap.mp hp
 cases q : h.get? b with
 | none => rw [q] at e; cases e
 | some o =>
  rw [q] at e
  have e' : (b, o) = p := Option.some.inj e
  subst e'
  exact ⟨hb, q⟩
theorem Inv.pinned {pins : List (Addr × Obj)} {σ : St} {H : Hp} {s : Shared} {fp : List Addr} (I : Inv X pins σ H s) (hf : ∀ b ∈ fp, FpOk X pins H b) (ho : ∀ b ∈ fp, ∃ o, s.heap.get? b = some o ∧ ∀ v, o.data ≠ .cell v) : Inv X (pins ++ pinsAt fp s.heap) σ H s :=
 I.pins_of fun p hp => (List.mem_append.mp hp).elim (fun z => I.pin p (List.mem_append_right _ z)) fun z => by
  obtain ⟨hb, e⟩ := of_pinsAt z
  obtain ⟨f0, f1, f2, _⟩ := hf p.1 hb
  obtain ⟨o, e', d⟩ := ho p.1 hb
  rw [e] at e'; cases e'
  exact ⟨e, f0, f1, f2, d⟩
theorem Inv.unpinned {pins pl : List (Addr × Obj)} {σ : St} {H : Hp} {s : Shared} (I : Inv X (pins ++ pl) σ H s) : Inv X pins σ H s := I.pins_of fun p hp => I.pin p (List.mem_append_right _ (List.mem_append_left _ hp))
theorem ps_for {iter : Expr} {body : List Stmt} {wi : TI} {g : TG} {tb : TS} {pos : Pos} (hp : PassesOwn (model X.prog X.w) X.A X.env X.xe) (hc : X.calm = true) (hi : PI X tg iter wi) (hg : PG X tg g) (hb : PSs X body tb)
  (hs : ∀ x, foldedSetIterable iter X.env x = pure x := by intro _; rfl) : PS X (.For tg iter body [] pos) (tFor wi g tb) := by
 intro pins s σ H D I h
 refine wpAny_For (thn (hi pins s σ H _ I h) fun v s1 h1 => thn h1 fun itv s2 h2 => ?_) hs
 obtain ⟨it, fp, tn, J, H2, e, I2, T, st2, f2, W, ⟨m0, w0⟩, turn⟩ := h2
 subst e
 have stat : ∀ {H' : Hp}, (∀ b ∈ fp, H' b = none) → ∀ b ∈ fp, FpOk X pins H' b := fun hn b hb => ⟨hn b hb, (f2 b hb).2⟩
 refine codeAny_forLoop_any (fun n s' => ∃ i σ' H', Inv X pins σ' H' s' ∧ tn i s'.heap ∧ (∀ b ∈ fp, H' b = none) ∧ W i n σ' H') ?_ m0 ⟨0, σ, H2, I2, st2, fun b hb => (f2 b hb).1, w0⟩
 rintro n s3 ⟨i, σ3, H3, I3, st3, fr3, w3⟩
 rcases turn i n σ3 H3 w3 with ⟨stop, qn⟩ | ⟨go, N, hN, step⟩
 ·refine wpAny_passesOwn hp (thn (T.done X rfl rfl rfl hc i pins s3 σ3 H3 X.xe I3 (stat fr3) st3 stop) fun r s4 hZ_ => ?_)
  obtain ⟨hr, I4⟩ := hZ_
  subst hr
  exact wpAny_execs_nil ⟨σ3, H3, I4, qn⟩
 ·refine wpAny_passesOwn hp (thn (T.item X rfl rfl rfl hc i pins s3 σ3 H3 X.xe I3 (stat fr3) st3 go) fun r s4 hZ_ => ?_)
  obtain ⟨u, hr, h4⟩ := hZ_
  subst hr
  refine wpAny_passesOwn hp (thn h4 fun _ s5 hZ_ => ?_)
  obtain ⟨x, H5, I5, r5, y5, st5, fr5⟩ := hZ_
  have I5' := I5.pinned (stat fr5) (T.obj _ _ st5)
  refine wpAny_passesOwn hp (thn (hg _ s5 σ3 H5 x u _ I5' r5 (step x H5 y5)) fun _ s6 hZ_ => ?_)
  obtain ⟨σ6, H6, I6, q6⟩ := hZ_
  refine wpAny_passesOwn hp (thn (hb _ s6 σ6 H6 _ I6 q6) fun f s7 q7 => ?_)
  have again : ∀ {σ7 : St} {H7 : Hp}, Inv X (pins ++ pinsAt fp s5.heap) σ7 H7 s7 → N σ7 H7 → ∃ m, m < n ∧ ∃ i σ' H', Inv X pins σ' H' s7 ∧ tn i s7.heap ∧ (∀ b ∈ fp, H' b = none) ∧ W i m σ' H' := fun {σ7 H7} I7 n7 => by
   obtain ⟨m', hm, w7⟩ := hN σ7 H7 n7
   refine ⟨m', hm, i + 1, σ7, H7, I7.unpinned, T.keep _ _ _ st5 fun b hb o e => (I7.pin (b, o) (List.mem_append_right _ (List.mem_append_right _ (mem_pinsAt hb e)))).1, fun b hb => ?_, w7⟩
   obtain ⟨o, e, d⟩ := T.obj _ _ st5 b hb
   exact (I7.pin (b, o) (List.mem_append_right _ (List.mem_append_right _ (mem_pinsAt hb e)))).2.1
  cases f with
  | next => obtain ⟨σ7, H7, I7, n7⟩ := q7; exact again I7 n7
  | cont => obtain ⟨σ7, H7, I7, n7⟩ := q7; exact again I7 n7
  | brk => obtain ⟨σ7, H7, I7, q7⟩ := q7; exact ⟨σ7, H7, I7.unpinned, q7⟩
  | ret v => obtain ⟨x7, σ7, H7, I7, r7, q7⟩ := q7; exact ⟨x7, σ7, H7, I7.unpinned, r7, q7⟩
end
end L2
namespace L2
open PySem PySem.Spec PyProof.Rows
abbrev R2 := V → V → Hp → VK → Prop
noncomputable def OpR (X : Cx) (f : Value → Value → Sem Value) (r : R2) : Prop :=
 ∀ (pins : List (Addr × Obj)) (s : Shared) (σ : St) (H : Hp) (x y : V) (v u : Value) (Q : VK), Inv X pins σ H s → RelV x v → RelV y u → r x y H Q →
  wpAny (model X.prog X.w) X.A (f v u) (EP X pins σ Q) X.xe s
noncomputable def UnR (X : Cx) (f : Value → Sem Value) (r : V → Hp → VK → Prop) : Prop :=
 ∀ (pins : List (Addr × Obj)) (s : Shared) (σ : St) (H : Hp) (x : V) (v : Value) (Q : VK), Inv X pins σ H s → RelV x v → r x H Q →
  wpAny (model X.prog X.w) X.A (f v) (EP X pins σ Q) X.xe s
noncomputable def CallR (X : Cx) (f : Value) (r : List V → Hp → VK → Prop) : Prop :=
 ∀ (pins : List (Addr × Obj)) (s : Shared) (σ : St) (H : Hp) (xs : List V) (us : List Value) (Q : VK), Inv X pins σ H s → Vals xs us → r xs H Q →
  wpAny (model X.prog X.w) X.A (call f us) (EP X pins σ Q) X.xe s
noncomputable def TruR (X : Cx) (r : V → Hp → (Bool → Hp → Prop) → Prop) : Prop :=
 ∀ (pins : List (Addr × Obj)) (s : Shared) (σ : St) (H : Hp) (x : V) (v : Value) (Q : Bool → Hp → Prop), Inv X pins σ H s → RelV x v → r x H Q →
  wpAny (model X.prog X.w) X.A (truthy v) (TP X pins σ Q) X.xe s
noncomputable def tOp (r : R2) (ta tb : TE) : TE := fun σ H Q => ta σ H fun x H1 => tb σ H1 fun y H2 => r x y H2 Q
noncomputable def tUn (r : V → Hp → VK → Prop) (ta : TE) : TE := fun σ H Q => ta σ H fun x H1 => r x H1 Q
noncomputable def rI (C : Int → Int → Prop) (g : Int → Int → V) : R2 := fun x y H Q => ∃ i j, x = .int i ∧ y = .int j ∧ C i j ∧ Q (g i j) H
noncomputable def rI0 (g : Int → Int → V) : R2 := fun x y H Q => ∃ i j, x = .int i ∧ y = .int j ∧ Q (g i j) H
noncomputable def rU (g : Int → V) : V → Hp → VK → Prop := fun x H Q => ∃ i, x = .int i ∧ Q (g i) H
section
variable {X : Cx} {a b c : Expr} {ta tb tc : TE} {pos : Pos}
theorem binT (ha : PE X a ta) (hb : PE X b tb) {pins : List (Addr × Obj)} {s : Shared} {σ : St} {H : Hp} {R : V → V → Hp → Prop} (I : Inv X pins σ H s)
  (h : ta σ H fun x H1 => tb σ H1 fun y H2 => R x y H2) {Q : Value → Shared → Prop} {f : Value → Value → Sem Value}
  (hf : ∀ v u s2 x y H2, Inv X pins σ H2 s2 → RelV x v → RelV y u → R x y H2 → wpAny (model X.prog X.w) X.A (f v u) Q X.xe s2) :
  wpAny (model X.prog X.w) X.A (eval a X.env) (fun v s₁ => wpAny (model X.prog X.w) X.A (eval b X.env) (fun u s₂ => wpAny (model X.prog X.w) X.A (f v u) Q X.xe s₂) X.xe s₁) X.xe s := by
 refine thn (ha pins s σ H _ I h) fun v s1 hZ_ => ?_
 obtain ⟨x, H1, I1, r1, q1⟩ := hZ_
 refine thn (hb pins s1 σ H1 _ I1 q1) fun u s2 hZ_ => ?_
 obtain ⟨y, H2, I2, r2, q2⟩ := hZ_
 exact hf v u s2 x y H2 I2 r1 r2 q2
theorem pe_op {op : Operator} {r : R2} (ho : OpR X (binaryOp op) r) (ha : PE X a ta) (hb : PE X b tb) : PE X (.BinOp a op b pos) (tOp r ta tb) := by
 intro pins s σ H Q I h
 exact wpAny_BinOp (binT ha hb I h fun v u s2 x y H2 I2 rx ry q => ho pins s2 σ H2 x y v u Q I2 rx ry q)
theorem pe_un {op : UnaryOp} {r : V → Hp → VK → Prop} (ho : UnR X (unaryOp op) r) (ha : PE X a ta) : PE X (.UnaryOp op a pos) (tUn r ta) := by
 intro pins s σ H Q I h
 exact UnaryOp_ (thn (ha pins s σ H _ I h) fun v s1 ⟨x, H1, I1, r1, q1⟩ => ho pins s1 σ H1 x v Q I1 r1 q1)
theorem opI {f : Value → Value → Sem Value} {C : Int → Int → Prop} {g : Int → Int → Int}
  (rule : ∀ (i j : Int) (t u : Tok) (s : Shared) (Q : Value → Shared → Prop) (E : Value → Shared → Prop), C i j → Q (.int (g i j) s.toks) { s with toks := s.toks + 1 } → wpAny (model X.prog X.w) X.A (f (.int i t) (.int j u)) Q E s) :
  OpR X f (rI C fun i j => .int (g i j)) := by
 intro pins s σ H x y v u Q I rx ry h
 obtain ⟨i, j, rfl, rfl, hc, q⟩ := h
 obtain ⟨t, rfl⟩ := rx
 obtain ⟨t', rfl⟩ := ry
 exact rule i j t t' s _ _ hc ⟨.int (g i j), H, I.tok _, ⟨_, rfl⟩, q⟩
theorem opI0 {f : Value → Value → Sem Value} {g : Int → Int → Int}
  (rule : ∀ (i j : Int) (t u : Tok) (s : Shared) (Q : Value → Shared → Prop) (E : Value → Shared → Prop), Q (.int (g i j) s.toks) { s with toks := s.toks + 1 } → wpAny (model X.prog X.w) X.A (f (.int i t) (.int j u)) Q E s) :
  OpR X f (rI0 fun i j => .int (g i j)) := by
 intro pins s σ H x y v u Q I rx ry h
 obtain ⟨i, j, rfl, rfl, q⟩ := h
 obtain ⟨t, rfl⟩ := rx
 obtain ⟨t', rfl⟩ := ry
 exact rule i j t t' s _ _ ⟨.int (g i j), H, I.tok _, ⟨_, rfl⟩, q⟩
theorem opB0 {f : Value → Value → Sem Value} {g : Int → Int → Bool}
  (rule : ∀ (i j : Int) (t u : Tok) (s : Shared) (Q : Value → Shared → Prop) (E : Value → Shared → Prop), Q (.bool (g i j)) s → wpAny (model X.prog X.w) X.A (f (.int i t) (.int j u)) Q E s) :
  OpR X f (rI0 fun i j => .bl (g i j)) := by
 intro pins s σ H x y v u Q I rx ry h
 obtain ⟨i, j, rfl, rfl, q⟩ := h
 obtain ⟨t, rfl⟩ := rx
 obtain ⟨t', rfl⟩ := ry
 exact rule i j t t' s _ _ ⟨.bl (g i j), H, I, rfl, q⟩
noncomputable def CDiv (i j : Int) : Prop := 0 < j ∧ j < 1073741824
noncomputable def CPow (i j : Int) : Prop := 0 ≤ j ∧ j ≤ 1000000 ∧ i.natAbs < 2 ^ 64
noncomputable def CMul (i j : Int) : Prop := (-(2 ^ 64) < i ∧ i < 2 ^ 64) ∨ (-(2 ^ 64) < j ∧ j < 2 ^ 64)
theorem CMul.ok {i j : Int} (h : CMul i j) : IntMulOk i j := by
 rcases h with ⟨h1, h2⟩ | ⟨h1, h2⟩
 ·exact .of_left (intBits_le_64 h1 h2)
 ·exact .of_right (intBits_le_64 h1 h2)
theorem two_pow_nn (k : Nat) : (0 : Int) ≤ 2 ^ k := by
 rw [two_pow_cast]
 exact Int.natCast_nonneg _
theorem op_add : OpR X (binaryOp .Add) (rI0 fun i j => .int (i + j)) := opI0 fun _ _ _ _ _ _ _ q => add_int q
theorem op_sub : OpR X (binaryOp .Sub) (rI0 fun i j => .int (i - j)) := opI0 fun _ _ _ _ _ _ _ q => sub_int q
theorem op_mul : OpR X (binaryOp .Mult) (rI CMul fun i j => .int (i * j)) := opI fun _ _ _ _ _ _ _ hc q => mul_int q hc.ok
theorem op_fdiv : OpR X (binaryOp .FloorDiv) (rI CDiv fun i j => .int (i / j)) := opI fun i j _ _ _ _ _ hc q => by
 have h1 : (0 : Int) < j := hc.1
 have h2 : j < 1073741824 := hc.2
 exact floordiv_int (by omega) (by rw [Int.fdiv_eq_ediv_of_nonneg i (by omega)]; exact q) (.inl (PyProof.noPylong_small (by omega)))
theorem op_mod : OpR X (binaryOp .Mod) (rI (fun _ j => 0 < j) fun i j => .int (i % j)) := opI fun i j _ _ _ _ _ hc q => by
 have h1 : (0 : Int) < j := hc
 exact mod_int' (by omega) (by rw [Int.fmod_eq_emod_of_nonneg i (by omega)]; exact q)
theorem op_pow : OpR X (binaryOp .Pow) (rI CPow fun i j => .int (i ^ j.toNat)) := opI fun _ _ _ _ _ _ _ hc q => pow_int_small hc.1 hc.2.1 hc.2.2 q
theorem op_shl : OpR X (binaryOp .LShift) (rI CPow fun i j => .int (i * 2 ^ j.toNat)) := opI fun _ _ _ _ _ _ _ hc q => lshift_int_small hc.1 hc.2.1 hc.2.2 q
theorem op_shr : OpR X (binaryOp .RShift) (rI (fun _ j => 0 ≤ j) fun i j => .int (i / 2 ^ j.toNat)) := opI fun i j _ _ _ _ _ hc q =>
 rshift_int hc (by rw [Int.fdiv_eq_ediv_of_nonneg i (two_pow_nn _)]; exact q)
theorem op_and : OpR X (binaryOp .BitAnd) (rI0 fun i j => .int (Builtin.bitAnd i j)) := opI0 fun _ _ _ _ _ _ _ q => and_int q
theorem unI {f : Value → Sem Value} {g : Int → Int}
  (rule : ∀ (i : Int) (t : Tok) (s : Shared) (Q : Value → Shared → Prop) (E : Value → Shared → Prop), Q (.int (g i) s.toks) { s with toks := s.toks + 1 } → wpAny (model X.prog X.w) X.A (f (.int i t)) Q E s) :
  UnR X f (rU fun i => .int (g i)) := by
 intro pins s σ H x v Q I rx h
 obtain ⟨i, rfl, q⟩ := h
 obtain ⟨t, rfl⟩ := rx
 exact rule i t s _ _ ⟨.int (g i), H, I.tok _, ⟨_, rfl⟩, q⟩
theorem un_neg : UnR X (unaryOp .USub) (rU fun i => .int (-i)) := unI fun _ _ _ _ _ q => neg_int q
end
section
variable {X : Cx} {a b c : Expr} {ta tb tc : TE} {pos : Pos}
theorem fin_bl {pins : List (Addr × Obj)} {σ : St} {H : Hp} {s : Shared} {Q : VK} {k k' : Bool} (I : Inv X pins σ H s) (q : Q (.bl k) H) (e : k = k') : EP X pins σ Q (.bool k') s := by
 subst e
 exact ⟨.bl k, H, I, rfl, q⟩
theorem op_lt : OpR X (compareOp .Lt) (rI0 fun i j => .bl (decide (i < j))) := opB0 fun _ _ _ _ _ _ _ q => lt_int q
theorem op_le : OpR X (compareOp .LtE) (rI0 fun i j => .bl (decide (i ≤ j))) := opB0 fun _ _ _ _ _ _ _ q => le_int q
theorem op_gt : OpR X (compareOp .Gt) (rI0 fun i j => .bl (decide (j < i))) := opB0 fun _ _ _ _ _ _ _ q => gt_int q
theorem op_ge : OpR X (compareOp .GtE) (rI0 fun i j => .bl (decide (j ≤ i))) := opB0 fun _ _ _ _ _ _ _ q => ge_int q
theorem op_lt_str : OpR X (compareOp .Lt) (fun x y H Q => ∃ i j, x = .str i ∧ y = .str j ∧ Q (.bl (decide (i.cps.toList < j.cps.toList))) H) := by
 intro pins s σ H x y v u Q I rx ry h
 obtain ⟨i, j, rfl, rfl, q⟩ := h
 obtain ⟨t, rfl⟩ := rx
 obtain ⟨t', rfl⟩ := ry
 exact lt_str (fin_bl I q rfl)
theorem op_in_str : OpR X (compareOp .In) (fun x y H Q => ∃ i j, x = .str i ∧ y = .str j ∧ Q (.bl (!(Builtin.Str.occurrences j i 0 j.length 1).isEmpty)) H) := by
 intro pins s σ H x y v u Q I rx ry h
 obtain ⟨i, j, rfl, rfl, q⟩ := h
 obtain ⟨t, rfl⟩ := rx
 obtain ⟨t', rfl⟩ := ry
 exact in_str (fin_bl I q rfl)
theorem op_isN : OpR X (compareOp .Is) (fun x y H Q => y = .non ∧ Q (.bl (decide (x = .non))) H) := by
 intro pins s σ H x y v u Q I rx ry h
 obtain ⟨rfl, q⟩ := h
 cases ry
 refine is_none_gen (fin_bl I q ?_)
 cases x <;> first
  | (cases rx; rfl)
  | (obtain ⟨t, rfl⟩ := rx; rfl)
theorem op_notN : OpR X (compareOp .IsNot) (fun x y H Q => y = .non ∧ Q (.bl (!decide (x = .non))) H) := by
 intro pins s σ H x y v u Q I rx ry h
 obtain ⟨rfl, q⟩ := h
 cases ry
 refine isnot_none_gen (fin_bl I q ?_)
 cases x <;> first
  | (cases rx; rfl)
  | (obtain ⟨t, rfl⟩ := rx; rfl)
theorem pe_cmpR {op : CmpOp} {r : R2} (ho : OpR X (compareOp op) r) (ha : PE X a ta) (hb : PE X b tb) (hm : behindInMarks op b = false) : PE X (.Compare a [op] [b] pos) (tOp r ta tb) := by
 intro pins s σ H Q I h
 exact wpAny_Compare1 (binT ha hb I h fun v u s2 x y H2 I2 rx ry q => ho pins s2 σ H2 x y v u Q I2 rx ry q) hm
noncomputable def tTest (t : TE) : TT := fun σ H Q => t σ H fun x H' => ∃ k, x = .bl k ∧ Q k H'
theorem pt_cmpR {op : CmpOp} {r : R2} (ho : OpR X (compareOp op) r) (ha : PE X a ta) (hb : PE X b tb) (hm : behindInMarks op b = false) : PT X (.Compare a [op] [b] pos) (tTest (tOp r ta tb)) := by
 intro pins s σ H Q I h
 refine wpAny_isTrue_Compare1 (thn (ha pins s σ H _ I h) fun v s1 ⟨x, H1, I1, r1, q1⟩ => thn (hb pins s1 σ H1 _ I1 q1) fun u s2 ⟨y, H2, I2, r2, q2⟩ =>
  thn (ho pins s2 σ H2 x y v u _ I2 r1 r2 q2) fun c s3 ⟨z, H3, I3, r3, k, e, q3⟩ => ?_) hm
 subst e
 cases r3
 exact wpAny_truthy_bool ⟨H3, I3, q3⟩
noncomputable def tChain (r r' : R2) (ta tb tc : TE) : TE := fun σ H Q => ta σ H fun x H1 => tb σ H1 fun y H2 => r x y H2 fun z H3 => ∃ k, z = .bl k ∧
 (if k = true then tc σ H3 fun w' H4 => r' y w' H4 Q else Q (.bl false) H3)
theorem pe_chain {op op' : CmpOp} {r r' : R2} (ho : OpR X (compareOp op) r) (ho' : OpR X (compareOp op') r') (ha : PE X a ta) (hb : PE X b tb) (hc : PE X c tc)
  (hm : lastMarks [op, op'] [b, c] = false := by with_unfolding_all rfl) : PE X (.Compare a [op, op'] [b, c] pos) (tChain r r' ta tb tc) := by
 intro pins s σ H Q I h
 refine Compare_chain (thn (ha pins s σ H _ I h) fun v s1 ⟨x, H1, I1, r1, q1⟩ => chain_link (thn (hb pins s1 σ H1 _ I1 q1) fun u s2 ⟨y, H2, I2, r2, q2⟩ =>
  thn (ho pins s2 σ H2 x y v u _ I2 r1 r2 q2) fun d s3 ⟨z, H3, I3, r3, k, e, q3⟩ => ?_)) hm
 subst e
 cases r3
 refine wpAny_truthy_bool ?_
 cases k with
 | false => exact ite_ff ⟨.bl false, H3, I3, rfl, q3⟩
 | true => exact ite_tt (chain_last (thn (hc pins s3 σ H3 _ I3 q3) fun w' s4 ⟨z', H4, I4, r4, q4⟩ => ho' pins s4 σ H4 y z' u w' Q I4 r2 r4 q4))
theorem pt_chain {op op' : CmpOp} {r r' : R2} (ho : OpR X (compareOp op) r) (ho' : OpR X (compareOp op') r') (ha : PE X a ta) (hb : PE X b tb) (hc : PE X c tc)
  (hm : lastMarks [op, op'] [b, c] = false := by with_unfolding_all rfl) : PT X (.Compare a [op, op'] [b, c] pos) (tTest (tChain r r' ta tb tc)) := by
 intro pins s σ H Q I h
 refine isTrue_chain (thn (ha pins s σ H _ I h) fun v s1 ⟨x, H1, I1, r1, q1⟩ => test_link (thn (hb pins s1 σ H1 _ I1 q1) fun u s2 ⟨y, H2, I2, r2, q2⟩ =>
  thn (ho pins s2 σ H2 x y v u _ I2 r1 r2 q2) fun d s3 ⟨z, H3, I3, r3, k, e, q3⟩ => ?_)) hm
 subst e
 cases r3
 refine wpAny_truthy_bool ?_
 cases k with
 | false =>
  obtain ⟨k', e', q'⟩ := q3
  cases e'
  exact ite_ff ⟨H3, I3, q'⟩
 | true =>
  refine ite_tt (test_last (thn (hc pins s3 σ H3 _ I3 q3) fun w' s4 ⟨z', H4, I4, r4, q4⟩ => thn (ho' pins s4 σ H4 y z' u w' _ I4 r2 r4 q4) fun d' s5 hZ_ => ?_))
  obtain ⟨z2, H5, I5, r5, k2, e2, q5⟩ := hZ_
  subst e2
  cases r5
  exact wpAny_truthy_bool ⟨H5, I5, q5⟩
noncomputable def TruV (K : PySem.W.Frag) (x : V) (H : Hp) (k : Bool) : Prop :=
 match x with
 | .non => k = false
 | .bl b => k = b
 | .int i => k = (i != 0)
 | .str y => y.length ≤ sizeLine ∧ k = ((y.length : Int) != 0)
 | .byt y => y.size ≤ sizeLine ∧ k = ((y.size : Int) != 0)
 | .ref p => (∃ xs, SqL K H p xs ∧ k = !xs.isEmpty) ∨ (∃ xs, SqT K H p xs ∧ k = !xs.isEmpty) ∨ ∃ kvs, H p = some (.dK kvs) ∧ k = !kvs.isEmpty
 | _ => False
theorem isEmpty_kv {κ : Type} {kvs : List (κ × V)} {vs : List (κ × Value)} (r : KV kvs vs) : (!vs.isEmpty) = !kvs.isEmpty := by
 cases r <;> rfl
theorem isEmpty_of {xs : List V} {its : List Value} (r : Vals xs its) : (!its.toArray.isEmpty) = !xs.isEmpty := by
 cases r <;> simp
theorem line63 : (sizeLine : Nat) < 2 ^ 63 := by rw [sizeLine_eq]; decide
theorem tru_ok : TruR X (fun x H Q => ∃ k, TruV X.K x H k ∧ Q k H) := by
 intro pins s σ H x v Q I rx h
 obtain ⟨k, e, q⟩ := h
 have hl := line63
 have hs : sizeLine = 16777216 := sizeLine_eq
 cases x with
 | non =>
  cases rx
  have e' : k = false := e
  subst e'
  exact truthy_none ⟨H, I, q⟩
 | bl b =>
  cases rx
  have e' : k = b := e
  subst e'
  exact wpAny_truthy_bool ⟨H, I, q⟩
 | int i =>
  obtain ⟨t, rfl⟩ := rx
  have e' : k = (i != 0) := e
  subst e'
  exact PySem.P.truthy_int ⟨H, I, q⟩
 | str y =>
  obtain ⟨t, rfl⟩ := rx
  obtain ⟨hy, e'⟩ : y.length ≤ sizeLine ∧ k = ((y.length : Int) != 0) := e
  subst e'
  exact PySem.P.truthy_str (by omega) ⟨H, I.tok _, q⟩
 | byt y =>
  obtain ⟨t, rfl⟩ := rx
  obtain ⟨hy, e'⟩ : y.size ≤ sizeLine ∧ k = ((y.size : Int) != 0) := e
  subst e'
  exact PySem.W.truthy_bytes (by omega) ⟨H, I.tok _, q⟩
 | ref p =>
  cases rx
  have e' : (∃ xs, SqL X.K H p xs ∧ k = !xs.isEmpty) ∨ (∃ xs, SqT X.K H p xs ∧ k = !xs.isEmpty) ∨ ∃ kvs, H p = some (.dK kvs) ∧ k = !kvs.isEmpty := e
  rcases e' with ⟨xs, hx, e'⟩ | ⟨xs, hx, e'⟩ | ⟨kvs, hx, e'⟩
  ·subst e'
   obtain ⟨its, r, pl, hz⟩ := I.list hx
   have hlen := r.length
   exact wpAny_truthy_list pl.isList (by simp only [List.size_toArray]; omega) ⟨H, I.tok _, by rw [isEmpty_of r]; exact q⟩
  ·subst e'
   obtain ⟨its, r, pl, hz⟩ := I.tuple hx
   have hlen := r.length
   exact truthy_tuple pl (by simp only [List.size_toArray]; omega) ⟨H, I.tok _, by rw [isEmpty_of r]; exact q⟩
  ·subst e'
   obtain ⟨hz, hS, vs, r, m⟩ : kvs.length ≤ sizeLine ∧ (p == sysModules) = false ∧ ∃ vs, KV kvs vs ∧ s.heap.DictOf (mixKind X.prog X.w) p vs := I.hok p _ hx
   have hlen : kvs.length = vs.length := Paired.length r
   exact wpAny_truthy_dict hS m (by omega) ⟨H, I.tok _, by rw [isEmpty_kv r]; exact q⟩
 | _ => exact (show False from e).elim
theorem pt_truth (ha : PE X a ta) (he : ∀ whole, isTrue a X.env whole = (do let v ← whole; standAt a.pos; holding [v] (truthy v))) :
  PT X a (fun σ H Q => ta σ H fun x H' => ∃ k, TruV X.K x H' k ∧ Q k H') := by
 intro pins s σ H Q I h
 exact isTrue_plain (thn (ha pins s σ H _ I h) fun v s1 ⟨x, H1, I1, r1, q1⟩ => tru_ok pins s1 σ H1 x v Q I1 r1 q1) (he _)
theorem op_add_str : OpR X (binaryOp .Add) (fun x y H Q => ∃ i j, x = .str i ∧ y = .str j ∧ i.length + j.length ≤ sizeLine ∧ Q (.str (i ++ j)) H) := by
 intro pins s σ H x y v u Q I rx ry h
 obtain ⟨i, j, rfl, rfl, hz, q⟩ := h
 obtain ⟨t, rfl⟩ := rx
 obtain ⟨t', rfl⟩ := ry
 exact add_str (fun t' tk => ⟨.str (i ++ j), H, I.tok _, ⟨_, rfl⟩, q⟩) hz
theorem vals1 {x : V} {us : List Value} (r : Vals [x] us) : ∃ u, us = [u] ∧ RelV x u := by
 cases r with
 | cons r1 r2 => cases r2; exact ⟨_, rfl, r1⟩
theorem vals2 {x y : V} {us : List Value} (r : Vals [x, y] us) : ∃ u w', us = [u, w'] ∧ RelV x u ∧ RelV y w' := by
 cases r with
 | cons r1 r2 =>
  cases r2 with
  | cons r3 r4 => cases r4; exact ⟨_, _, rfl, r1, r3⟩
theorem call_abs : CallR X (.builtin "abs") (fun xs H Q => ∃ i, xs = [.int i] ∧ Q (.int (if i < 0 then -i else i)) H) := by
 intro pins s σ H xs us Q I r h
 obtain ⟨i, rfl, q⟩ := h
 obtain ⟨u, rfl, t, rfl⟩ := vals1 r
 exact call_abs_int fun u tk => ⟨.int (if i < 0 then -i else i), H, I.tok _, ⟨_, rfl⟩, q⟩
theorem call_max2 (hc : X.calm = true) : CallR X (.builtin "max") (fun xs H Q => ∃ i j, xs = [.int i, .int j] ∧ Q (.int (if j > i then j else i)) H) := by
 intro pins s σ H xs us Q I r h
 obtain ⟨i, j, rfl, q⟩ := h
 obtain ⟨u, w', rfl, ⟨t, rfl⟩, ⟨t', rfl⟩⟩ := vals2 r
 refine max_two_ints (I.ok.hd hc) fun h' tk k => ⟨_, H, I.kept k, ?_, q⟩
 by_cases hj : j > i
 ·rw [if_pos hj, if_pos hj]; exact ⟨_, rfl⟩
 ·rw [if_neg hj, if_neg hj]; exact ⟨_, rfl⟩
theorem call_min2 (hc : X.calm = true) : CallR X (.builtin "min") (fun xs H Q => ∃ i j, xs = [.int i, .int j] ∧ Q (.int (if j < i then j else i)) H) := by
 intro pins s σ H xs us Q I r h
 obtain ⟨i, j, rfl, q⟩ := h
 obtain ⟨u, w', rfl, ⟨t, rfl⟩, ⟨t', rfl⟩⟩ := vals2 r
 refine min_two_ints (I.ok.hd hc) fun h' tk k => ⟨_, H, I.kept k, ?_, q⟩
 by_cases hj : j < i
 ·rw [if_pos hj, if_pos hj]; exact ⟨_, rfl⟩
 ·rw [if_neg hj, if_neg hj]; exact ⟨_, rfl⟩
theorem call_int1 : CallR X (.type "int") (fun xs H Q => (∃ i, xs = [.int i] ∧ Q (.int i) H) ∨ ∃ k, xs = [.bl k] ∧ Q (.int (if k then 1 else 0)) H) := by
 intro pins s σ H xs us Q I r h
 rcases h with ⟨i, rfl, q⟩ | ⟨k, rfl, q⟩
 ·obtain ⟨u, rfl, t, rfl⟩ := vals1 r
  exact call_int_int ⟨.int i, H, I, ⟨_, rfl⟩, q⟩
 ·obtain ⟨u, rfl, r1⟩ := vals1 r
  cases r1
  exact call_int_bool ⟨.int (if k then 1 else 0), H, I.tok _, ⟨_, rfl⟩, q⟩
theorem call_divmod : CallR X (.builtin "divmod") (fun xs H Q => ∃ i j, xs = [.int i, .int j] ∧ CDiv i j ∧ ∀ p, H p = none → Q (.ref p) (upd H p (.tup [.int (i / j), .int (i % j)]))) := by
 intro pins s σ H xs us Q I r h
 obtain ⟨i, j, rfl, ⟨h1, h2⟩, q⟩ := h
 obtain ⟨u, w', rfl, ⟨t, rfl⟩, ⟨t', rfl⟩⟩ := vals2 r
 refine divmod_int (by omega) ?_ (.inl (PyProof.noPylong_small (by omega)))
 rw [Int.fdiv_eq_ediv_of_nonneg i (by omega), Int.fmod_eq_emod_of_nonneg i (by omega)]
 have hn : H s.heap.objs.size = none := I.hok.fresh (Nat.le_refl _)
 refine ⟨.ref s.heap.objs.size, _, ?_, rfl, q _ hn⟩
 refine I.laid (fun b o e => Heap.get?_push_of_some _ e) (Nat.le_refl _) ⟨by simp only [List.length_cons, List.length_nil]; rw [sizeLine_eq]; decide, [.int (i / j) s.toks, .int (i % j) (s.toks + 1)], .cons ⟨_, rfl⟩ (.cons ⟨_, rfl⟩ .nil), ?_⟩
 exact ⟨_, Heap.get?_push_size s.heap rfl, rfl, 0, rfl⟩
end
end L2
namespace L2
open PySem PySem.Spec PyProof.Rows
structure ObjM (h : Heap) (x dx C : Addr) (mA : Str → Option Value) : Prop where
 obj : h.get? x = some (PySem.W.instObj C dx)
 ns : h.Ns1 dx mA
 ne : dx ≠ x
theorem lookIn_ns {h : Heap} {dx : Addr} {mA : Str → Option Value} (n : h.Ns1 dx mA) : ∃ od, h.get? dx = some od ∧ ∀ name, PySem.W.lookIn name od = some (mA name) := by
 obtain ⟨o, es, ep, ho, hd, hk, _, hm⟩ := n
 refine ⟨o, ho, fun name => ?_⟩
 have e := hm name
 unfold nsFind findBy at e
 rw [← Array.find?_toList] at e
 unfold PySem.W.lookIn
 rw [hd]
 dsimp only
 split
 ·rename_i y q
  rw [q] at e
  exact congrArg some e
 ·rename_i q
  rw [q] at e
  have a : es.toList.any (·.refKey) = false := by
   rw [List.any_eq_false]
   intro y hy
   obtain ⟨z, t, hkey⟩ := hk y (Array.mem_toList_iff.mp hy)
   simp [DictEntry.refKey, hkey]
  have a' : ¬ es.toList.any (·.refKey) = true := by rw [a]; exact Bool.false_ne_true
  rw [if_neg a']
  exact congrArg some e
theorem ObjM.look {h : Heap} {x dx C : Addr} {mA : Str → Option Value} (I : ObjM h x dx C mA) : ∃ od, PySem.W.InstAt h x (PySem.W.instObj C dx) C (some od) ∧ ∀ name, PySem.W.lookIn name od = some (mA name) :=
 let ⟨od, ho, hl⟩ := lookIn_ns I.ns
 ⟨od, ⟨I.obj, rfl, rfl, ho⟩, hl⟩
section
variable {prog : Program} {w : World} {A : Around} {E : Value → Shared → Prop} {s : Shared} {K : PySem.W.Frag} {x dx C f : Addr} {mA : Str → Option Value} {name : Str} {v : Value}
theorem get_map {expr : Bool} {Q : Value → Shared → Prop} (X : K.In s.heap) (I : ObjM s.heap x dx C mA) (hg : PySem.W.plainGet K C name = true) (hh : PySem.W.hasDictIn K C = true)
  (ha : PySem.W.findIn K (.ref C) name = some none) (hv : mA name = some v) (hv' : PySem.W.handedIn v = true) (h : Q v { s with toks := s.toks + 1 }) :
  wpAny (model prog w) A (getAttr (.ref x) name expr) Q E s := by
 obtain ⟨od, J, hl⟩ := I.look
 exact PySem.W.get_value X J (PySem.W.plainGet_of hg).1 (PySem.W.findObj_own hh ha rfl (by rw [hl, hv])) hv' h
theorem get_meth {pl : Sem Bool} {Q : Value × List Value → Shared → Prop} (X : K.In s.heap) (I : ObjM s.heap x dx C mA) (hg : PySem.W.plainGet K C name = true)
  (hf : PySem.W.findIn K (.ref C) name = some (some (.ref f))) (ht : PySem.W.isFn K (.ref f) = true) (hv : mA name = none) (h : Q (.ref f, [.ref x]) s) :
  wpAny (model prog w) A (getMethod (.ref x) name pl) Q E s := by
 obtain ⟨od, J, hl⟩ := I.look
 exact PySem.W.method_fn X J (PySem.W.plainGet_of hg).1 (PySem.W.plainGet_of hg).2 hf (beq_iff_eq.mp ht) (by show (PySem.W.lookIn name od).map (·.isSome) = some false; rw [hl, hv]; rfl) h
theorem set_map {ns : List Str} {Q : Unit → Shared → Prop} (X : K.In s.heap) (I : ObjM s.heap x dx C mA)
  (hs : PySem.W.findIn K (.ref C) "__setattr__" = some (some (.builtin "object.__setattr__"))) (hp : PySem.W.plainOver K C = true) (ht : PySem.W.takerIn K C name = some none) (hh : PySem.W.hasDictIn K C = true)
  (hw : PySem.Within mA ns) (hsz : ns.length ≤ sizeLine)
  (h : ∀ h', ObjM h' x dx C (fun y => if y = name then some v else mA y) → Heap.SameBut dx s.heap h' → Q () { s with heap := h', toks := s.toks + 2 }) :
  wpAny (model prog w) A (setAttr (.ref x) name v) Q E s := by
 obtain ⟨od, J, hl⟩ := I.look
 refine PySem.W.set_plain X J hs (PySem.W.osa_open (s := { s with toks := s.toks + 1 }) (r := none) X J hp ht fun b => ?_)
 obtain ⟨cd, hc, hd'⟩ := PySem.W.any_some hh
 have hx : s.heap.get? x = some ⟨.ref C, some dx, .plain, #[]⟩ := I.obj
 refine wpAny_bind (wpAny_pure (wpAny_bind (wpAny_bind (wpAny_loadPart hx (wpAny_bind (PySem.W.Looks.here (s := { s with toks := s.toks + 1 }) (PySem.W.looks_clsIn X hc) ?_))))))
 rw [hd']
 refine wpAny_pure (a := some dx) (wpAny_bind (wpAny_pure (wpAny_bind ?_)))
 refine wpAny_nsSet1 (s := { s with toks := s.toks + 1 }) I.ns fun h' hn2 hs2 => ?_
 obtain ⟨oD, esD, epD, hoD, hdD, hcD⟩ := hn2.count (PySem.Within.cons name v hw)
 refine wpAny_bind (wpAny_lookBehind hoD (by rw [hdD]; exact pastItsLine_dict (Nat.le_trans hcD (by rw [List.length_cons]; omega))) ?_)
 exact wpAny_pure (h _ ⟨(hs2.2 _ (Ne.symm I.ne)).trans I.obj, hn2, I.ne⟩ hs2)
theorem make_map {R : Result → Shared → Prop} {vs : List Value} {kw : List (Str × Value)} (X : K.In s.heap) (hm : PySem.W.makesIn K C = true)
  (hi : PySem.W.findIn K (.ref C) "__init__" = some (some (.ref f))) (hf : PySem.W.typeIn K (.ref f) = some (.type "function"))
  (h : codeAny (model prog w) (A.under (.builtin "type.__call__" ⟨.ref C :: vs, kw⟩)) (.call (.ref f) ⟨.ref (s.heap.objs.size + 1) :: vs, kw⟩) (PySem.W.InitBack (s.heap.objs.size + 1) R)
   { s with heap := (s.heap.push PySem.W.emptyDict).push (PySem.W.instObj C s.heap.objs.size) }) :
  codeAny (model prog w) A (.call (.ref C) ⟨vs, kw⟩) R s := by
 obtain ⟨hh, g, d, t, os⟩ := s
 exact PySem.W.make_core (PySem.W.makes_of X hm) (PySem.W.looks_findIn X hi) (fun self => PySem.W.bind_fn X self hf) (.inl rfl) h
end
noncomputable def putF (f : Str) (v : V) : List (Str × V) → List (Str × V)
 | [] => [(f, v)]
 | (g, x) :: r => if g = f then (g, v) :: r else (g, x) :: putF f v r
theorem lookup_putF (f g : Str) (v : V) : ∀ fs : List (Str × V), (putF f v fs).lookup g = if g = f then some v else fs.lookup g
 | [] => by
  show List.lookup g [(f, v)] = _
  by_cases h : g = f
  ·have hb : (g == f) = true := beq_iff_eq.mpr h
   simp only [List.lookup, hb, if_pos h]
  ·have hb : (g == f) = false := beq_eq_false_iff_ne.mpr h
   simp only [List.lookup, hb, if_neg h]
 | (k, x) :: r => by
  have ih := lookup_putF f g v r
  rw [show putF f v ((k, x) :: r) = (if k = f then (k, v) :: r else (k, x) :: putF f v r) from rfl]
  by_cases hk : k = f
  ·rw [if_pos hk]
   by_cases h : g = k
   ·have hb : (g == k) = true := beq_iff_eq.mpr h
    simp only [List.lookup, hb, if_pos (h.trans hk)]
   ·have hb : (g == k) = false := beq_eq_false_iff_ne.mpr h
    simp only [List.lookup, hb, if_neg (fun e : g = f => h (e.trans hk.symm))]
  ·rw [if_neg hk]
   by_cases h : g = k
   ·have hb : (g == k) = true := beq_iff_eq.mpr h
    simp only [List.lookup, hb, if_neg (fun e : g = f => hk (h.symm.trans e))]
   ·have hb : (g == k) = false := beq_eq_false_iff_ne.mpr h
    simp only [List.lookup, hb]
    exact ih
theorem keys_putF (f : Str) (v : V) : ∀ fs : List (Str × V), f ∈ (putF f v fs).map (·.1) ∧ ∀ g, g ∈ fs.map (·.1) → g ∈ (putF f v fs).map (·.1)
 | [] => ⟨by simp [putF], fun g h => by simp at h⟩
 | (k, x) :: r => by
  obtain ⟨i1, i2⟩ := keys_putF f v r
  rw [show putF f v ((k, x) :: r) = (if k = f then (k, v) :: r else (k, x) :: putF f v r) from rfl]
  by_cases hk : k = f
  ·rw [if_pos hk]
   subst hk
   exact ⟨by simp, fun g h => by simpa using h⟩
  ·rw [if_neg hk]
   refine ⟨?_, fun g h => ?_⟩
   ·rw [List.map_cons]
    exact List.mem_cons_of_mem _ i1
   ·rw [List.map_cons] at h ⊢
    rcases List.mem_cons.mp h with e | e
    ·exact List.mem_cons.mpr (.inl e)
    ·exact List.mem_cons_of_mem _ (i2 g e)
theorem length_putF (f : Str) (v : V) : ∀ fs : List (Str × V), (putF f v fs).length ≤ fs.length + 1
 | [] => by simp [putF]
 | (k, x) :: r => by
  have ih := length_putF f v r
  rw [show putF f v ((k, x) :: r) = (if k = f then (k, v) :: r else (k, x) :: putF f v r) from rfl]
  by_cases hk : k = f
  ·rw [if_pos hk, List.length_cons, List.length_cons]; omega
  ·rw [if_neg hk, List.length_cons, List.length_cons]; omega
theorem RelO.some_of {v : V} {o : Option Value} (r : RelO (some v) o) : ∃ u, o = some u ∧ RelV v u := by
 cases o with
 | none => exact (show False from r).elim
 | some u => exact ⟨u, rfl, r⟩
theorem RelO.none_of {o : Option Value} (r : RelO none o) : o = none := by
 cases o with
 | none => rfl
 | some u => exact (show False from r).elim
theorem handed_of {v : V} {u : Value} (r : RelV v u) : PySem.W.handedIn u = true := by
 cases v with
 | non => cases (show u = Value.none from r); rfl
 | bl b => cases (show u = Value.bool b from r); rfl
 | int i => obtain ⟨t, e⟩ := (show ∃ t, u = Value.int i t from r); cases e; rfl
 | str x => obtain ⟨t, e⟩ := (show ∃ t, u = Value.str x t from r); cases e; rfl
 | byt b => obtain ⟨t, e⟩ := (show ∃ t, u = Value.bytes b t from r); cases e; rfl
 | flt b => obtain ⟨t, e⟩ := (show ∃ t, u = Value.float b t from r); cases e; rfl
 | ref a => cases (show u = Value.ref a from r); rfl
 | ty n => cases (show u = Value.type n from r); rfl
section
variable {P : Program} {w : World} {H H' : Hp} {h h' : Heap} {a C dx : Addr} {fs fs' : List (Str × V)}
theorem ins_get (hok : HOk P w H h) (e : H a = some (.ins C dx fs)) : ∃ mA, ObjM h a dx C mA ∧ (∀ f, RelO (fs.lookup f) (mA f)) ∧ PySem.Within mA (fs.map (·.1)) ∧ fs.length ≤ 1000 ∧ H dx = some (.own a) := by
 obtain ⟨d, z, ne, ob, mA, n, r, q⟩ := (show ObjOk P w H h a (.ins C dx fs) from hok a _ e)
 exact ⟨mA, ⟨ob, n, ne⟩, r, q, z, d⟩
end
structure Cls (K : PySem.W.Frag) (C : Addr) : Prop where
 pg : PySem.W.plainGet K C Str.empty = true
 hd : PySem.W.hasDictIn K C = true
 po : PySem.W.plainOver K C = true
 sa : PySem.W.findIn K (.ref C) "__setattr__" = some (some (.builtin "object.__setattr__"))
theorem Cls.get {K : PySem.W.Frag} {C : Addr} (c : Cls K C) (f : Str) : PySem.W.plainGet K C f = true := c.pg
noncomputable def NoAttr (K : PySem.W.Frag) (C : Addr) (f : Str) : Prop := PySem.W.findIn K (.ref C) f = some none
theorem NoAttr.taker {K : PySem.W.Frag} {C : Addr} {f : Str} (n : NoAttr K C f) : PySem.W.takerIn K C f = some none := by
 unfold PySem.W.takerIn
 rw [show PySem.W.findIn K (.ref C) f = some none from n]
 rfl
structure Meth (K : PySem.W.Frag) (C : Addr) (m : Str) (f : Addr) : Prop where
 at_ : PySem.W.findIn K (.ref C) m = some (some (.ref f))
 fn : PySem.W.isFn K (.ref f) = true
 kp : PySem.W.keepIn K (.ref f) = true
section
variable {X : Cx} {pins : List (Addr × Obj)} {σ : St} {H : Hp} {s : Shared} {a C dx : Addr} {fs : List (Str × V)} {f : Str} {v : V} {A : Around} {E : Value → Shared → Prop}
theorem setattr_ok {y : V} {u : Value} {Q : Unit → Shared → Prop} (I : Inv X pins σ H s) (e : H a = some (.ins C dx fs)) (c : Cls X.K C) (n : NoAttr X.K C f) (hl : fs.length < 1000) (ry : RelV y u)
  (h : ∀ s', Inv X pins σ (upd H a (.ins C dx (putF f y fs))) s' → Q () s') : wpAny (model X.prog X.w) A (setAttr (.ref a) f u) Q E s := by
 obtain ⟨mA, O, r, wi, _, ho⟩ := ins_get I.hok e
 have hz : (fs.map (·.1)).length ≤ sizeLine := by rw [List.length_map, sizeLine_eq]; omega
 refine set_map I.kIn O c.sa c.po n.taker c.hd wi hz fun h' O' sb => h _ ?_
 have hd : ∃ o, h'.get? dx = some o := let ⟨o, _, _, e', _⟩ := O'.ns; ⟨o, e'⟩
 refine I.write (x := a) (e := dx) (by rw [e]; exact True.intro) (.inr ho) (fun b q hb z => (sb.2 b hb).trans z) hd ?_
 refine ⟨by rw [upd_ne O.ne]; exact ho, ?_, O.ne, O'.obj, _, O'.ns, fun g => ?_, fun g hg => ?_⟩
 ·have := length_putF f y fs; omega
 ·show RelO ((putF f y fs).lookup g) (if g = f then some u else mA g)
  rw [lookup_putF]
  by_cases q : g = f
  ·rw [if_pos q, if_pos q]; exact ry
  ·rw [if_neg q, if_neg q]; exact r g
 ·by_cases q : g = f
  ·rw [q]; exact (keys_putF f y fs).1
  ·refine (keys_putF f y fs).2 g (wi g fun z => hg ?_)
   show (if g = f then some u else mA g) = none
   rw [if_neg q]; exact z
theorem Inv.made (I : Inv X pins σ H s) : Inv X pins σ (upd (upd H s.heap.objs.size (.own (s.heap.objs.size + 1))) (s.heap.objs.size + 1) (.ins C s.heap.objs.size []))
  { s with heap := (s.heap.push PySem.W.emptyDict).push (PySem.W.instObj C s.heap.objs.size) } := by
 have e1 : (s.heap.push PySem.W.emptyDict).get? s.heap.objs.size = some PySem.W.emptyDict := Heap.get?_push_size s.heap rfl
 have e2 : ((s.heap.push PySem.W.emptyDict).push (PySem.W.instObj C s.heap.objs.size)).get? (s.heap.objs.size + 1) = some (PySem.W.instObj C s.heap.objs.size) := by
  have := Heap.get?_push_size (s.heap.push PySem.W.emptyDict) (o := PySem.W.instObj C s.heap.objs.size) rfl
  rwa [Heap.size_push] at this
 have e3 : (s.heap.push PySem.W.emptyDict).Ns s.heap.objs.size (fun _ => none) := ⟨PySem.W.emptyDict, #[], _, e1, rfl, (fun e he => absurd he (by simp)), fun _ => rfl⟩
 have I1 := I.laid (a := s.heap.objs.size) (o := .own (s.heap.objs.size + 1)) (h' := s.heap.push PySem.W.emptyDict) (t' := s.toks) (fun b u q => Heap.get?_push_of_some _ q) (Nat.le_refl _) ⟨_, e1⟩
 refine I1.laid (a := s.heap.objs.size + 1) (o := .ins C s.heap.objs.size []) (t' := s.toks) (fun b u q => Heap.get?_push_of_some _ q) (Nat.le_of_eq (Heap.size_push _ _)) ?_
 have ne : s.heap.objs.size ≠ s.heap.objs.size + 1 := Nat.ne_of_lt (Nat.lt_succ_self _)
 refine ⟨by rw [upd_ne ne, upd_same], Nat.zero_le _, ne, e2, fun _ => none, (Heap.Ns1.of_empty e3).at fun o q => Heap.get?_push_of_some _ q, fun _ => True.intro, fun y hy => absurd rfl hy⟩
theorem attr_of {prog : Program} {w : World} {env : Env} {e : Expr} {f : Str} {pos : Pos} {s : Shared} {Q : Value → Shared → Prop} (hb : attributeBase e f env (eval e env) = eval e env)
  (h : wpAny (model prog w) A (eval e env) (fun o s₁ => wpAny (model prog w) A (getAttr o f true) Q E s₁) E s) : wpAny (model prog w) A (eval (.Attribute e f pos) env) Q E s :=
 Attribute_any_ h (by rw [arm_eval_Attribute, hb])
end
noncomputable def sFld (K : PySem.W.Frag) (ta tv : TE) (f : Str) : TS := fun D σ H => tv σ H fun y H1 => ta σ H1 fun x H2 => ∃ a C dx fs, x = .ref a ∧ H2 a = some (.ins C dx fs) ∧ Cls K C ∧ NoAttr K C f ∧ fs.length < 1000 ∧
 D.nx σ (upd H2 a (.ins C dx (putF f y fs)))
section
variable {X : Cx} {o e value : Expr} {f : Str} {pos pos' tpos : Pos} {ta tv : TE}
theorem ps_fld (ha : PE X o ta) (hv : PE X value tv) (hs : swapsWith value (some (.Attribute o f pos')) pos.line X.env = pure false) : PS X (.Assign [.Attribute o f pos'] value pos) (sFld X.K ta tv f) := by
 intro pins s σ H D I h
 refine plainObj_wpAny_Assign_Attribute (thn (hv pins s σ H _ I h) fun u s1 h1 => ?_) hs
 obtain ⟨y, H1, I1, ry, q⟩ := h1
 refine thn (ha pins s1 σ H1 _ I1 q) fun ov s2 h2 => ?_
 obtain ⟨x, H2, I2, rx, a, C, dx, fs, ex, ea, c, n, l, q2⟩ := h2
 subst ex
 obtain rfl : ov = Value.ref a := rx
 exact setattr_ok I2 ea c n l ry fun s3 I3 => ⟨σ, _, I3, q2⟩
end
section
variable {X : Cx} {pins : List (Addr × Obj)} {σ : St} {H : Hp} {s : Shared} {A : Around} {E : Value → Shared → Prop} {Q : Value → Shared → Prop} {c : Value} {b : Bool}
inductive TyOf (K : PySem.W.Frag) (H : Hp) : V → Value → Prop where
 | non : TyOf K H .non (.type "NoneType")
 | bl (x : Bool) : TyOf K H (.bl x) (.type "bool")
 | int (i : Int) : TyOf K H (.int i) (.type "int")
 | str (x : Str) : TyOf K H (.str x) (.type "str")
 | flt (x : UInt64) : TyOf K H (.flt x) (.type "float")
 | lst {a : Addr} {xs : List V} (e : H a = some (.lst xs)) : TyOf K H (.ref a) (.type "list")
 | frz {a : Addr} {o : Obj} {xs : List V} (e : H a = some (.frz o (.lst xs))) : TyOf K H (.ref a) (.type "list")
 | tup {a : Addr} {xs : List V} (e : H a = some (.tup xs)) : TyOf K H (.ref a) (.type "tuple")
 | dK {a : Addr} {kvs : List (Key × V)} (e : H a = some (.dK kvs)) : TyOf K H (.ref a) (.type "dict")
 | dT {a : Addr} {kvs : List (List Key × V)} (e : H a = some (.dT kvs)) : TyOf K H (.ref a) (.type "dict")
 | ins {a C dx : Addr} {fs : List (Str × V)} (e : H a = some (.ins C dx fs)) (cl : Cls K C) (ha : PySem.W.findIn K (.ref C) "__class__" = some (some (.builtin "object.__class__")))
   (hn : PySem.W.specialIn K (.builtin "object.__class__") "__get__" = some (some (.builtin "getset_descriptor.__get__"))) (htk : PySem.W.takesIn K (.builtin "object.__class__") = some true)
   (hm : PySem.W.mroIn K C (.type "object") = some true) : TyOf K H (.ref a) (.ref C)
theorem isinst_ok {x : V} {u t : Value} (I : Inv X pins σ H s) (rx : RelV x u) (ty : TyOf X.K H x t) (e : PySem.W.kitOne X.K t c = some b) (h : ∀ tk, Q (.bool b) { s with toks := tk }) :
  wpAny (model X.prog X.w) A (call (.builtin "isinstance") [u, c]) Q E s := by
 cases ty with
 | non => cases (show u = Value.none from rx); exact PySem.W.kia_one PySem.W.kitx_none I.kIn True.intro e (fun z => nomatch z) h
 | bl y => cases (show u = Value.bool y from rx); exact PySem.W.kia_one PySem.W.kitx_bool I.kIn True.intro e (fun z => nomatch z) h
 | int i => obtain ⟨t, q⟩ := (show ∃ t, u = Value.int i t from rx); cases q; exact PySem.W.kia_one PySem.W.kitx_int I.kIn True.intro e (fun z => nomatch z) h
 | str y => obtain ⟨t, q⟩ := (show ∃ t, u = Value.str y t from rx); cases q; exact PySem.W.kia_one PySem.W.kitx_str I.kIn True.intro e (fun z => nomatch z) h
 | flt y => obtain ⟨t, q⟩ := (show ∃ t, u = Value.float y t from rx); cases q; exact PySem.W.kia_one PySem.W.kitx_float I.kIn True.intro e (fun z => nomatch z) h
 | @lst a xs ea =>
  cases (show u = Value.ref a from rx)
  obtain ⟨_, _, n, _, h1⟩ := (show ObjOk X.prog X.w H s.heap a (.lst xs) from I.hok a _ ea)
  exact PySem.W.kia_one PySem.W.kitx_list I.kIn ⟨_, h1, rfl⟩ e (fun z => nomatch z) h
 | @frz a ob xs ea =>
  cases (show u = Value.ref a from rx)
  obtain ⟨_, _, _, n, _, h1⟩ := (show ObjOk X.prog X.w H s.heap a (.frz ob (.lst xs)) from I.hok a _ ea)
  exact PySem.W.kia_one PySem.W.kitx_list I.kIn ⟨_, h1, rfl⟩ e (fun z => nomatch z) h
 | @tup a xs ea =>
  cases (show u = Value.ref a from rx)
  obtain ⟨_, _, _, p⟩ := (show ObjOk X.prog X.w H s.heap a (.tup xs) from I.hok a _ ea)
  obtain ⟨o, h1, h2, _⟩ := p
  exact PySem.W.kia_one PySem.W.kitx_tuple I.kIn ⟨o, h1, h2⟩ e (fun z => nomatch z) h
 | @dK a kvs ea =>
  cases (show u = Value.ref a from rx)
  obtain ⟨_, _, vs, _, p⟩ := (show ObjOk X.prog X.w H s.heap a (.dK kvs) from I.hok a _ ea)
  obtain ⟨o, es, ep, h1, h2, _⟩ := p
  exact PySem.W.kia_one PySem.W.kitx_dict I.kIn ⟨o, h1, h2.1⟩ e (fun z => nomatch z) h
 | @dT a kvs ea =>
  cases (show u = Value.ref a from rx)
  obtain ⟨_, _, xs, _, o, es, ep, h1, h2, _⟩ := (show ObjOk X.prog X.w H s.heap a (.dT kvs) from I.hok a _ ea)
  exact PySem.W.kia_one PySem.W.kitx_dict I.kIn ⟨o, h1, h2.1⟩ e (fun z => nomatch z) h
 | @ins a C dx fs ea cl ha hn htk hm =>
  cases (show u = Value.ref a from rx)
  obtain ⟨mA, O, _⟩ := ins_get I.hok ea
  obtain ⟨od, J, _⟩ := O.look
  exact PySem.W.kia_one (PySem.W.kitx_own (cl.get _) cl.hd ha hn htk hm) I.kIn J e (fun z => nomatch z) h
end
end L2
namespace L2
open PySem PySem.Spec PyProof.Rows
structure Room (k : Nat) (A : Around) : Prop where
 hd : A.handled = none
 dp : A.depth + 3 * k + 5 < recursionLimit
 un : A.units + 16 * k + 200 < cLine
 gd : A.guards = some [] := by rfl
theorem Room.mono {j k : Nat} {A : Around} (r : Room k A) (h : j ≤ k) : Room j A := ⟨r.hd, by have := r.dp; omega, by have := r.un; omega, r.gd⟩
theorem Room.deeper {k : Nat} {A : Around} (r : Room (k + 1) A) (env : Env) : Room k (A.deeper env) :=
 ⟨r.hd, by have := r.dp; show A.depth + 1 + 3 * k + 5 < _; omega, by have := r.un; show A.units + 3 + 16 * k + 200 < _; omega, r.gd⟩
theorem make_depth {A : Around} {C : Addr} {us : List Value} {kw : List (Str × Value)} : (A.under (.builtin "type.__call__" ⟨.ref C :: us, kw⟩)).depth = A.depth + 1 := by
 first | rfl | simp [Around.under, Code.weight, Code.isCreation, Code.isGuard, Code.isCaller, Code.frames, Code.isFrame, guardIds]
theorem make_units {A : Around} {C : Addr} {us : List Value} {kw : List (Str × Value)} : (A.under (.builtin "type.__call__" ⟨.ref C :: us, kw⟩)).units = A.units + 1 := by
 first | rfl | simp [Around.under, Code.cUnits, Code.frames, Code.isFrame]
theorem make_guards {A : Around} {C : Addr} {us : List Value} {kw : List (Str × Value)} : (A.under (.builtin "type.__call__" ⟨.ref C :: us, kw⟩)).guards = A.guards := by
 first | rfl | (simp [Around.under, Code.guards, Code.isGuard, guardIds, pushGuards]; done) | (cases h : A.guards <;> simp [Around.under, Code.guards, Code.isGuard, guardIds, pushGuards, h])
theorem Room.make {k : Nat} {A : Around} (r : Room (k + 1) A) (C : Addr) (us : List Value) (kw : List (Str × Value)) : Room k (A.under (.builtin "type.__call__" ⟨.ref C :: us, kw⟩)) :=
 ⟨r.hd, by have := r.dp; rw [make_depth]; omega, by have := r.un; rw [make_units]; omega, by rw [make_guards]; exact r.gd⟩
theorem Room.depth {k : Nat} {A : Around} (r : Room k A) : A.depth < recursionLimit := by have := r.dp; omega
theorem Room.units {k : Nat} {A : Around} (r : Room k A) : A.units + 64 < cLine := by have := r.un; omega
noncomputable def tNil : TA := fun _ H Q => Q [] H
noncomputable def tCons (ta : TE) (tr : TA) : TA := fun σ H Q => ta σ H fun x H1 => tr σ H1 fun xs H2 => Q (x :: xs) H2
section
variable {X : Cx} {e : Expr} {es : List Expr} {te : TE} {t : TA} {pos : Pos}
theorem pa_nil : PA X [] tNil := fun _ _ _ _ H Q I h => Calls.spliced_nil ⟨[], H, I, .nil, h⟩
theorem pa_cons (ha : PE X e te) (hr : PA X es t) (hs : starEach (e :: es) X.env = (false, eval e X.env) :: starEach es X.env := by rfl) : PA X (e :: es) (tCons te t) := by
 intro pos pins s σ H Q I h
 rw [hs]
 show wpAny _ _ (spliced ((false, eval e X.env) :: backTo pos (starEach es X.env))) _ _ s
 refine Calls.spliced_cons (thn (ha pins s σ H _ I h) fun u s1 hZ_ => ?_)
 obtain ⟨x, H1, I1, r1, q1⟩ := hZ_
 exact thn (hr pos pins s1 σ H1 _ I1 q1) fun us s2 ⟨xs, H2, I2, r2, q2⟩ => ⟨x :: xs, H2, I2, .cons r1 r2, q2⟩
noncomputable def tTup (t : TA) : TE := fun σ H Q => t σ H fun xs H1 => xs.length ≤ sizeLine ∧ ∀ p, H1 p = none → Q (.ref p) (upd H1 p (.tup xs))
noncomputable def tLst (t : TA) : TE := fun σ H Q => t σ H fun xs H1 => xs.length ≤ sizeLine ∧ ∀ p, H1 p = none → Q (.ref p) (upd H1 p (.lst xs))
theorem pe_tup {x1} (h : PA X es t) : PE X (.Tuple es x1 pos) (tTup t) := by
 intro pins s σ H Q I hq
 refine wpAny_Tuple_spliced (thn (h pos pins s σ H _ I hq) fun us s1 ⟨xs, H1, I1, r, z, q⟩ => ⟨by rw [← r.length]; exact z, ?_⟩)
 have hf : H1 s1.heap.objs.size = none := I1.hok.fresh (Nat.le_refl _)
 refine ⟨.ref s1.heap.objs.size, upd H1 s1.heap.objs.size (.tup xs), I1.laid (t' := s1.toks) (fun b u e => Heap.get?_push_of_some _ e) (Nat.le_refl _) ?_, rfl, q _ hf⟩
 exact ⟨z, us, r, ⟨_, Heap.get?_push_size _ rfl, rfl, _, rfl⟩⟩
theorem pe_lst (h : PA X es t) : PE X (.List es pos) (tLst t) := by
 intro pins s σ H Q I hq
 refine wpAny_List_spliced (thn (h pos pins s σ H _ I hq) fun us s1 ⟨xs, H1, I1, r, z, q⟩ => ⟨by rw [← r.length]; exact z, ?_⟩)
 have hf : H1 s1.heap.objs.size = none := I1.hok.fresh (Nat.le_refl _)
 refine ⟨.ref s1.heap.objs.size, upd H1 s1.heap.objs.size (.lst xs), I1.laid (t' := s1.toks) (fun b u e => Heap.get?_push_of_some _ e) (Nat.le_refl _) ?_, rfl, q _ hf⟩
 exact ⟨z, us, 0, r, Heap.get?_push_size _ rfl⟩
end
abbrev Sp := List V → Hp → VK → XK → Prop
abbrev CXT := List Env → Hp → Shared → XK → Value → Shared → Prop
structure Env0 (P : Program) (w : World) (K : PySem.W.Frag) (mg : Str → Option Value) (base : Heap) (A : Around) (outer : List Env) (s : Shared) (H : Hp) : Prop where
 frames : A.frames = some outer
 mod : Mod K mg base
 bs : ∀ b o, base.get? b = some o → s.heap.get? b = some o ∧ H b = none
 bsz : base.objs.size ≤ s.heap.objs.size
 funs : s.heap.FunFrames base outer
 frf : ∀ b ∈ frs outer, H b = none
 hok : HOk P w H s.heap
 bare : AllBare s.gens
noncomputable def CE (outer : List Env) (P : Program) (w : World) (H : Hp) (s : Shared) (Q : VK) (u : Value) (s' : Shared) : Prop :=
 ∃ v H', s'.os = s.os ∧ AllBare s'.gens ∧ Un (frs outer) [] H H' s.heap s'.heap ∧ HOk P w H' s'.heap ∧ RelV v u ∧ Q v H'
noncomputable def CR (CX : CXT) (outer : List Env) (P : Program) (w : World) (H : Hp) (s : Shared) (Q : VK) (E : XK) (r : Result) (s' : Shared) : Prop :=
 match r with
 | .ok (.ret u) => CE outer P w H s Q u s'
 | .ok _ => False
 | .error e => CX outer H s E e s'
structure FnOk (P : Program) (w : World) (K : PySem.W.Frag) (mg : Str → Option Value) (base : Heap) (CX : CXT) (k : Nat) (f : Addr) (fd : FuncData) (ps : List Str) (sp : Sp) : Prop where
 len : ∀ vs H Q E, sp vs H Q E → vs.length = ps.length
 run : ∀ (A : Around) (outer : List Env) (s : Shared) (H : Hp) (args : Args) (us : List Value) (vs : List V) (Q : VK) (E : XK), Room k A → Env0 P w K mg base A outer s H → BindsTo s fd args (ps.zip us) → Vals vs us → sp vs H Q E →
  codeAny (model P w) A (.call (.ref f) args) (CR CX outer P w H s Q E) s
theorem FnOk.imp {P : Program} {w : World} {K : PySem.W.Frag} {mg : Str → Option Value} {base : Heap} {CX : CXT} {k : Nat} {f : Addr} {fd : FuncData} {ps : List Str} {sp sp' : Sp} (F : FnOk P w K mg base CX k f fd ps sp)
  (h : ∀ vs H Q E, sp' vs H Q E → sp vs H Q E) : FnOk P w K mg base CX k f fd ps sp' :=
 ⟨fun vs H Q E q => F.len vs H Q E (h _ _ _ _ q), fun A outer s H args us vs Q E hr he hb hv hs => F.run A outer s H args us vs Q E hr he hb hv (h _ _ _ _ hs)⟩
theorem Env0.make {P : Program} {w : World} {K : PySem.W.Frag} {mg : Str → Option Value} {base : Heap} {A : Around} {outer : List Env} {s : Shared} {H : Hp} (e : Env0 P w K mg base A outer s H) (C : Addr) (us : List Value) (kw : List (Str × Value)) :
  Env0 P w K mg base (A.under (.builtin "type.__call__" ⟨.ref C :: us, kw⟩)) outer s H := ⟨by first | exact e.frames | (simpa [Around.under, Code.envs, Code.isFrame, pushEnvs] using e.frames), e.mod, e.bs, e.bsz, e.funs, e.frf, e.hok, e.bare⟩
section
variable {X : Cx} {pins : List (Addr × Obj)} {σ : St} {H : Hp} {s s' : Shared}
theorem Inv.env0 (I : Inv X pins σ H s) : Env0 X.prog X.w X.K X.mg X.base X.A X.stack s H :=
 ⟨I.ok.frames, I.ok.mod, I.bs, Nat.le_trans I.ok.bsz I.sz, I.stack, I.stkFree, I.hok, I.bare⟩
theorem Inv.after {Q : VK} {u : Value} (I : Inv X pins σ H s) (h : CE X.stack X.prog X.w H s Q u s') : EP X pins σ Q u s' := by
 obtain ⟨v, H', os, bare, un, hok, r, q⟩ := h
 obtain ⟨hh, g, d, t, os'⟩ := s'
 obtain rfl : os' = s.os := os
 exact ⟨v, H', I.call (h' := hh) (g' := g) (d' := d) (t' := t) (ch := []) un hok bare (fun b z => absurd z (by simp)), r, q⟩
end
noncomputable def tCall (sp : Sp) (dvs : List V) (E : XK) (t : TA) : TE := fun σ H Q => t σ H fun vs H1 => sp (vs ++ dvs) H1 Q E
noncomputable def tMake (C : Addr) (sp : Sp) (dvs : List V) (E : XK) (t : TA) : TE := fun σ H Q => t σ H fun vs H1 => ∀ x dx, H1 x = none → H1 dx = none → dx ≠ x →
 sp (.ref x :: (vs ++ dvs)) (upd (upd H1 dx (.own x)) x (.ins C dx [])) (fun v H2 => v = .non ∧ Q (.ref x) H2) E
noncomputable def Binds (K : PySem.W.Frag) (fd : FuncData) (ps : List Str) (ds : List Value) : Prop :=
 ∀ (s : Shared) (us : List Value), K.In s.heap → (us ++ ds).length = ps.length → BindsTo s fd ⟨us, []⟩ (ps.zip (us ++ ds))
theorem Binds.all {K : PySem.W.Frag} {fd : FuncData} {ps : List Str} (h : ∀ us : List Value, us.length = ps.length → bindArgs fd ⟨us, []⟩ = pure (ps.zip us)) : Binds K fd ps [] := fun s us _ hl => by
 rw [List.append_nil] at hl ⊢
 exact .of_eq (h us hl)
noncomputable def Passes (CX : CXT) (X : Cx) (E : XK) : Prop := ∀ (pins : List (Addr × Obj)) (σ : St) (H : Hp) (s : Shared) (e : Value) (s' : Shared), Inv X pins σ H s → CX X.stack H s E e s' → X.xe e s'
section
variable {X : Cx} {CX : CXT} {k : Nat} {f C : Addr} {fd : FuncData} {ps : List Str} {sp : Sp} {dvs : List V} {ds : List Value} {E : XK} {x m : Str} {p pos apos : Pos} {e o : Expr} {es : List Expr} {ta : TE} {t : TA}
theorem run_fn {pins : List (Addr × Obj)} {σ : St} {H : Hp} {s : Shared} {Q : VK} {us : List Value} {vs : List V} (F : FnOk X.prog X.w X.K X.mg X.base CX k f fd ps sp) (hr : Room k X.A) (hb : Binds X.K fd ps ds) (hd : Vals dvs ds) (hx : Passes CX X E)
  (I : Inv X pins σ H s) (r : Vals vs us) (h : sp (vs ++ dvs) H Q E) : wpAny (model X.prog X.w) X.A (call (.ref f) us) (EP X pins σ Q) X.xe s := by
 have r2 : Vals (vs ++ dvs) (us ++ ds) := r.append hd
 have hl : (us ++ ds).length = ps.length := by rw [← r2.length]; exact F.len _ _ _ _ h
 refine wpAny_call (codeAny_mono (F.run X.A X.stack s H ⟨us, []⟩ (us ++ ds) (vs ++ dvs) Q E hr I.env0 (hb s us I.kIn hl) r2 h) fun r s' hq => ?_)
 cases r with
 | error e => exact hx pins σ H s e s' I hq
 | ok fl =>
  cases fl with
  | ret u => exact I.after hq
  | next => exact False.elim hq
  | brk => exact False.elim hq
  | cont => exact False.elim hq
theorem pe_call (F : FnOk X.prog X.w X.K X.mg X.base CX k f fd ps sp) (hr : Room k X.A) (hg : Gl X x) (hm : X.mg x = some (.ref f)) (hk : PySem.W.keepIn X.K (.ref f) = true) (hb : Binds X.K fd ps ds) (hd : Vals dvs ds) (hx : Passes CX X E)
  (ha : PA X (e :: es) t) (hdb : (x == ("__debug__" : Str)) = false := by decide) (he : starEach (e :: es) X.env = (false, eval e X.env) :: starEach es X.env := by rfl) (hpl : (backTo pos (starEach es X.env)).any (·.1) = false := by rfl) :
  PE X (.Call (.Name x p) (e :: es) [] pos) (tCall sp dvs E t) := by
 intro pins s σ H Q I h
 refine wpAny_Call_Name_kw (ld_glob I hg hm ?_ hdb)
 refine PySem.W.callWith_K (h₀ := X.base) I.ok.mod.kin hk (thn (ha pos pins s σ H _ I h) fun us s1 ⟨vs, H1, I1, r, q⟩ => ⟨I1.kIn, ?_⟩) he hpl
 exact run_fn F hr hb hd hx I1 r q
theorem pe_call0 (F : FnOk X.prog X.w X.K X.mg X.base CX k f fd ps sp) (hr : Room k X.A) (hg : Gl X x) (hm : X.mg x = some (.ref f)) (hk : PySem.W.keepIn X.K (.ref f) = true) (hb : Binds X.K fd ps ds) (hd : Vals dvs ds) (hx : Passes CX X E)
  (hdb : (x == ("__debug__" : Str)) = false := by decide) : PE X (.Call (.Name x p) [] [] pos) (tCall sp dvs E tNil) := by
 intro pins s σ H Q I h
 refine wpAny_Call_Name_kw (ld_glob I hg hm ?_ hdb)
 exact PySem.W.callWith_K0 I.kIn hk (run_fn (us := []) F hr hb hd hx I .nil h)
structure Mk (K : PySem.W.Frag) (C f : Addr) : Prop where
 makes : PySem.W.makesIn K C = true
 init : PySem.W.findIn K (.ref C) "__init__" = some (some (.ref f))
 fn : PySem.W.isFn K (.ref f) = true
 kp : PySem.W.keepIn K (.ref C) = true
theorem run_make {pins : List (Addr × Obj)} {σ : St} {H : Hp} {s : Shared} {Q : VK} {us : List Value} {vs : List V} (M : Mk X.K C f) (F : FnOk X.prog X.w X.K X.mg X.base CX k f fd ps sp) (hr : Room (k + 1) X.A) (hb : Binds X.K fd ps ds) (hd : Vals dvs ds)
  (hx : Passes CX X E) (I : Inv X pins σ H s) (r : Vals vs us)
  (h : ∀ x dx, H x = none → H dx = none → dx ≠ x → sp (.ref x :: (vs ++ dvs)) (upd (upd H dx (.own x)) x (.ins C dx [])) (fun v H2 => v = .non ∧ Q (.ref x) H2) E) :
  wpAny (model X.prog X.w) X.A (call (.ref C) us) (EP X pins σ Q) X.xe s := by
 have hq := h (s.heap.objs.size + 1) s.heap.objs.size (I.hok.fresh (Nat.le_succ _)) (I.hok.fresh (Nat.le_refl _)) (Nat.ne_of_lt (Nat.lt_succ_self _))
 have I2 := Inv.made (C := C) I
 have r2 : Vals (V.ref (s.heap.objs.size + 1) :: (vs ++ dvs)) (Value.ref (s.heap.objs.size + 1) :: (us ++ ds)) := .cons rfl (r.append hd)
 have hl : (Value.ref (s.heap.objs.size + 1) :: us ++ ds).length = ps.length := by
  have e := r2.length
  rw [F.len _ _ _ _ hq] at e
  exact e.symm
 refine wpAny_call (make_map (f := f) I.kIn M.makes M.init (beq_iff_eq.mp M.fn) (codeAny_mono (F.run _ X.stack _ _ ⟨Value.ref (s.heap.objs.size + 1) :: us, []⟩ (Value.ref (s.heap.objs.size + 1) :: (us ++ ds)) _ _ E (hr.make C us [])
  (I2.env0.make C us []) (hb _ (Value.ref (s.heap.objs.size + 1) :: us) I2.kIn hl) r2 hq) fun r s' hq' => ?_))
 cases r with
 | error e => exact hx pins σ _ _ e s' I2 hq'
 | ok fl =>
  cases fl with
  | ret u =>
   obtain ⟨v, H', I3, rv, ev, q3⟩ := I2.after hq'
   subst ev
   exact ⟨rv, ⟨V.ref (s.heap.objs.size + 1), H', I3, rfl, q3⟩⟩
  | next => exact False.elim hq'
  | brk => exact False.elim hq'
  | cont => exact False.elim hq'
theorem pe_make (M : Mk X.K C f) (F : FnOk X.prog X.w X.K X.mg X.base CX k f fd ps sp) (hr : Room (k + 1) X.A) (hg : Gl X x) (hm : X.mg x = some (.ref C)) (hb : Binds X.K fd ps ds) (hd : Vals dvs ds) (hx : Passes CX X E)
  (ha : PA X (e :: es) t) (hdb : (x == ("__debug__" : Str)) = false := by decide) (he : starEach (e :: es) X.env = (false, eval e X.env) :: starEach es X.env := by rfl) (hpl : (backTo pos (starEach es X.env)).any (·.1) = false := by rfl) :
  PE X (.Call (.Name x p) (e :: es) [] pos) (tMake C sp dvs E t) := by
 intro pins s σ H Q I h
 refine wpAny_Call_Name_kw (ld_glob I hg hm ?_ hdb)
 refine PySem.W.callWith_K (h₀ := X.base) I.ok.mod.kin M.kp (thn (ha pos pins s σ H _ I h) fun us s1 ⟨vs, H1, I1, r, q⟩ => ⟨I1.kIn, ?_⟩) he hpl
 exact run_make M F hr hb hd hx I1 r q
end
section
variable {X : Cx} {CX : CXT} {k : Nat} {f C : Addr} {fd : FuncData} {ps ks : List Str} {sp : Sp} {E : XK} {x m : Str} {p pos apos kpos : Pos} {e o : Expr} {es : List Expr} {kws : List Keyword} {te ta : TE} {t tk : TA} {nm : Option Str}
variable {g : List Value → List Value → List Value} {gV : List V → List V → List V}
end
structure FnScope (N P : List Str) (sc : Scope) : Prop where
 kind : sc.kind = .function
 co : sc.isCoroutine = false
 gen : sc.isGenerator = false
 nd : N.Nodup
 pre : N.take P.length = P
 par : ∀ x ∈ P, sc.names.lookup x = some .local ∨ sc.names.lookup x = some .cell
 nofree : ∀ y ∈ sc.names, y.2 ≠ .free
theorem bindL_out {kindOf : Str → Option NameKind} {x : Str} : ∀ {binds : List (Str × Value)} {m : Str → Option Value}, (∀ v, (x, v) ∉ binds) → bindL kindOf binds m x = m x
 | [], _, _ => rfl
 | (n, v) :: r, m, h => by
  unfold bindL
  rw [bindL_out fun w hw => h w (List.mem_cons_of_mem _ hw)]
  split
  ·have : x ≠ n := by rintro rfl; exact h v List.mem_cons_self
   simp [this]
  ·rfl
theorem bindC_out {kindOf : Str → Option NameKind} {x : Str} : ∀ {binds : List (Str × Value)} {m : Str → Option Value}, (∀ v, (x, v) ∉ binds) → bindC kindOf binds m x = m x
 | [], _, _ => rfl
 | (n, v) :: r, m, h => by
  unfold bindC
  rw [bindC_out fun w hw => h w (List.mem_cons_of_mem _ hw)]
  split
  ·rfl
  ·have : x ≠ n := by rintro rfl; exact h v List.mem_cons_self
   simp [this]
theorem bindL_get {kindOf : Str → Option NameKind} {x : Str} {v : Value} : ∀ {P : List Str} {vs : List Value} {i : Nat} {m : Str → Option Value}, P.Nodup → P[i]? = some x → vs[i]? = some v → kindOf x = some .local →
  bindL kindOf (P.zip vs) m x = some v
 | [], _, _, _, _, h, _, _ => by simp at h
 | _ :: _, [], _, _, _, _, h, _ => by simp at h
 | p :: P, w :: vs, 0, m, nd, h1, h2, hk => by
  simp at h1 h2; subst h1; subst h2
  show bindL kindOf ((p, w) :: P.zip vs) m p = _
  unfold bindL
  rw [bindL_out fun v hv => (List.nodup_cons.mp nd).1 (List.of_mem_zip hv).1, if_pos hk]
  simp
 | p :: P, w :: vs, i + 1, m, nd, h1, h2, hk => by
  show bindL kindOf ((p, w) :: P.zip vs) m x = _
  unfold bindL
  exact bindL_get (i := i) (List.nodup_cons.mp nd).2 (by simpa using h1) (by simpa using h2) hk
theorem bindC_get {kindOf : Str → Option NameKind} {x : Str} {v : Value} : ∀ {P : List Str} {vs : List Value} {i : Nat} {m : Str → Option Value}, P.Nodup → P[i]? = some x → vs[i]? = some v → kindOf x ≠ some .local →
  bindC kindOf (P.zip vs) m x = some v
 | [], _, _, _, _, h, _, _ => by simp at h
 | _ :: _, [], _, _, _, _, h, _ => by simp at h
 | p :: P, w :: vs, 0, m, nd, h1, h2, hk => by
  simp at h1 h2; subst h1; subst h2
  show bindC kindOf ((p, w) :: P.zip vs) m p = _
  unfold bindC
  rw [bindC_out fun v hv => (List.nodup_cons.mp nd).1 (List.of_mem_zip hv).1, if_neg hk]
  simp
 | p :: P, w :: vs, i + 1, m, nd, h1, h2, hk => by
  show bindC kindOf ((p, w) :: P.zip vs) m x = _
  unfold bindC
  exact bindC_get (i := i) (List.nodup_cons.mp nd).2 (by simpa using h1) (by simpa using h2) hk
noncomputable def start (N : List Str) (vs : List V) : St := vs.map some ++ List.replicate (N.length - vs.length) none
noncomputable def cxOf (CX : CXT) (P : Program) (w : World) (K : PySem.W.Frag) (mg : Str → Option Value) (base : Heap) (N : List Str) (qual : Str) (scope : Scope) (f : Addr) (cd : Value) (A : Around) (outer : List Env) (s : Shared) (H : Hp) (E : XK) : Cx where
 prog := P
 w := w
 K := K
 mg := mg
 base := base
 A := A.deeper (envOfC qual scope s.heap.objs.size f cd)
 N := N
 s₀ := s
 H₀ := H
 env := envOfC qual scope s.heap.objs.size f cd
 outer := outer
 stack := envOfC qual scope s.heap.objs.size f cd :: outer
 ex := []
 calm := true
 fn := fun _ => true
 pn := []
 xe := fun e s' => wpAny (model P w) (A.deeper (envOfC qual scope s.heap.objs.size f cd)) (leaving (envOfC qual scope s.heap.objs.size f cd) e) (fun _ s'' => CX outer H s E e s'') (fun e' s'' => CX outer H s E e' s'') s'
theorem cell_has {sc : Scope} {n : Nat} {x : Str} (h : sc.names.lookup x = some .cell) : ∃ c, (cellsFrom n sc.names []).lookup x = some c := by
 have q := PySem.W.cellsFrom_some sc.names n [] (.inl h)
 exact Option.isSome_iff_exists.mp q
theorem inv_start {CX : CXT} {P : Program} {w : World} {K : PySem.W.Frag} {mg : Str → Option Value} {base : Heap} {N ps : List Str} {qual : Str} {scope : Scope} {f : Addr} {cd : Value} {A : Around} {outer : List Env} {s s1 : Shared} {H : Hp} {E : XK} {us : List Value} {vs : List V}
  (S : FnScope N ps scope) (hd : A.handled = none) (e0 : Env0 P w K mg base A outer s H) (hl : vs.length = ps.length) (r : Vals vs us)
  (x : InCallC s s.heap.objs.size (bindL (envOfC qual scope s.heap.objs.size f cd).kindOf (ps.zip us) fun _ => none) (cellsFrom (s.heap.objs.size + 1) scope.names []) (bindC (envOfC qual scope s.heap.objs.size f cd).kindOf (ps.zip us) fun _ => none) s1) :
  Inv (cxOf CX P w K mg base N qual scope f cd A outer s H E) [] (start N vs) H s1 := by
 have hpl : ps.length ≤ N.length := by have := congrArg List.length S.pre; rw [List.length_take] at this; omega
 obtain ⟨h1, tk, rfl, hk⟩ := x.done
 have noA : ∀ b : Addr, b ∉ (cxOf CX P w K mg base N qual scope f cd A outer s H E).ex := fun b z => absurd (show b ∈ ([] : List Addr) from z) (by simp)
 refine ⟨⟨e0.mod, S.kind, rfl, rfl, Nat.le_refl _, fun y z c h1 h2 => ?_, fun y hy => ?_, fun y c _ h => ?_, fun _ => hd, Around.frames_deeper e0.frames, .inr ⟨rfl, rfl⟩, fun b z => absurd z (noA b), e0.bs, e0.bsz, fun b _ _ => noA b, fun b z => absurd z (noA b), e0.funs, e0.frf⟩,
  rfl, e0.bare, Un.kept hk, ⟨_, x.toInCall.ns, fun i y v h1 h2 h3 => ?_⟩, fun y c h => ⟨_, x.cell y c h⟩, e0.hok.fresh (Nat.le_refl _), fun y c h => ?_, fun p hp => absurd (show p ∈ ([] : List (Addr × Obj)) from hp) (by simp), e0.hok.kept hk, ?_⟩
 ·exact name_of_addr x.apart (PySem.mem_of_lookup h1) (PySem.mem_of_lookup h2)
 ·have hy : scope.names.lookup y = some .cell ∨ scope.names.lookup y = some .free := hy
  rcases hy with hy | hy
  ·exact cell_has hy
  ·exact absurd rfl (S.nofree _ (PySem.mem_of_lookup hy))
 ·exact Nat.le_of_lt (x.above y c (PySem.mem_of_lookup h))
 ·have hi : i < vs.length := by
   unfold start at h2
   by_cases hi : i < vs.length
   ·exact hi
   ·rw [List.getElem?_append_right (by simpa using hi)] at h2
    rw [List.getElem?_replicate] at h2
    split at h2 <;> cases h2
  have ha : vs[i]? = some v := by
   unfold start at h2
   rw [List.getElem?_append_left (by simpa using hi), List.getElem?_map] at h2
   cases e : vs[i]? with
   | none => rw [e] at h2; cases h2
   | some a => rw [e] at h2; cases h2; rfl
  obtain ⟨u, hu, rv⟩ := r.get ha
  have hp : ps[i]? = some y := by
   rw [← S.pre, List.getElem?_take_of_lt (by omega)]; exact h1
  have ndP : ps.Nodup := by rw [← S.pre]; exact S.nd.sublist (List.take_sublist _ _)
  refine ⟨u, rv, ?_⟩
  rcases S.par y (List.mem_of_getElem? hp) with k | k
  ·exact .inl ⟨k, bindL_get ndP hp hu k⟩
  ·obtain ⟨c, e⟩ := cell_has (n := s.heap.objs.size + 1) k
   refine .inr ⟨.inl k, c, e, ?_⟩
   have q := x.cell y c e
   rw [bindC_get ndP hp hu (by show scope.names.lookup y ≠ _; rw [k]; decide)] at q
   exact q
 ·exact e0.hok.fresh (Nat.le_of_lt (x.above y c (PySem.mem_of_lookup h)))
 ·unfold start
  show _ = N.length
  rw [List.length_append, List.length_map, List.length_replicate]
  omega
theorem fn_of {CX : CXT} {P : Program} {w : World} {K : PySem.W.Frag} {mg : Str → Option Value} {base : Heap} {k : Nat} {f : Addr} {name qual : Str} {params : Arguments} {body : List Stmt} {scope : Scope} {dV kV doc pm cdv ct oc : Value} {an od : Option Addr}
  {osl : Array (Option Value)} {N ps : List Str} {sp : Sp} (lk : K.lookup f = some ⟨oc, od, .func (PySem.W.fnOf name qual params body scope dV kV doc pm an cdv ct), osl⟩) (hcd : PySem.W.codeIn K cdv qual = true) (S : FnScope N ps scope)
  (len : ∀ vs H Q E, sp vs H Q E → vs.length = ps.length)
  (hbody : ∀ (A : Around) (outer : List Env) (s : Shared) (H : Hp) (vs : List V) (Q : VK) (E : XK), Room k (A.deeper (envOfC qual scope s.heap.objs.size f cdv)) → sp vs H Q E →
   ∃ t, PSs (cxOf CX P w K mg base N qual scope f cdv A outer s H E) body t ∧ t { nx := fun _ H' => Q .non H', rt := Q } (start N vs) H) :
  FnOk P w K mg base CX (k + 1) f (PySem.W.fnOf name qual params body scope dV kV doc pm an cdv ct) ps sp := by
 refine ⟨len, fun A outer s H args us vs Q E hr e0 hb r hsp => ?_⟩
 have hl := len _ _ _ _ hsp
 have KX : K.In s.heap := e0.mod.kin.keeps fun b o e => (e0.bs b o e).1
 have lim : s.heap.NoLimit := e0.mod.nolimit.keeps fun b o e => (e0.bs b o e).1
 have hkind : ∀ y ∈ ps.zip us, scope.names.lookup y.1 = some .local ∨ (scope.names.lookup y.1 = some .cell ∧ ((cellsFrom (s.heap.objs.size + 1) scope.names []).lookup y.1).isSome = true) := fun ⟨n, v⟩ hy => by
  rcases S.par n (List.of_mem_zip hy).1 with q | q
  ·exact .inl q
  ·exact .inr ⟨q, PySem.W.cellsFrom_some _ _ _ (.inl q)⟩
 refine codeAny_call_function hr.depth (KX _ _ lk) rfl S.co S.gen rfl (PySem.W.codeRec_of KX hcd) (hb _ _ _ _ ?_)
 refine wpAny_newFunctionEnv_cells S.kind hkind fun env he s1 x => ?_
 subst he
 refine ⟨lim.keeps x.toInCall.keep, codeAny_func ?_⟩
 obtain ⟨t, ht, hq⟩ := hbody A outer s H vs Q E (hr.deeper _) hsp
 have I : Inv (cxOf CX P w K mg base N qual scope f cdv A outer s H E) [] (start N vs) H s1 := inv_start S hr.hd e0 hl r x
 refine wpAny_mono (ht [] s1 (start N vs) H _ I hq) (fun fl s' hs => ?_) fun e s' hs => hs
 have fin : ∀ {σ' : St} {H' : Hp} {v : V} {u : Value}, Inv (cxOf CX P w K mg base N qual scope f cdv A outer s H E) [] σ' H' s' → RelV v u → Q v H' → CE outer P w H s Q u s' :=
  fun {σ' H' v u} J rv q => ⟨v, H', J.os, J.bare, J.base, J.hok, rv, q⟩
 cases fl with
 | ret u =>
  obtain ⟨v, σ', H', J, rv, q⟩ := hs
  exact fin J rv q
 | next =>
  obtain ⟨σ', H', J, q⟩ := hs
  exact fin (v := V.non) (u := Value.none) J rfl q
 | brk =>
  obtain ⟨_, _, _, q⟩ := hs
  exact False.elim q
 | cont =>
  obtain ⟨_, _, _, q⟩ := hs
  exact False.elim q
end L2
namespace L2
open PySem PySem.Spec PyProof.Rows
section
variable {X : Cx} {x : Str} {p pos : Pos} {e : Expr} {es : List Expr} {t : TA} {id T : String} {r : List V → Hp → VK → Prop}
noncomputable def tCB (r : List V → Hp → VK → Prop) (t : TA) : TE := fun σ H Q => t σ H fun vs H1 => r vs H1 Q
theorem pe_callB (hc : CallR X (.builtin id) r) (hg : Gl X x) (hm : X.mg x = none) (hv : bootBuiltins x = some (.builtin id)) (ha : PA X (e :: es) t) (hn : x ≠ "__name__" := by decide) (hdb : (x == ("__debug__" : Str)) = false := by decide)
  (he : starEach (e :: es) X.env = (false, eval e X.env) :: starEach es X.env := by rfl) (hpl : (backTo pos (starEach es X.env)).any (·.1) = false := by rfl) : PE X (.Call (.Name x p) (e :: es) [] pos) (tCB r t) := by
 intro pins s σ H Q I h
 refine wpAny_Call_Name_kw (ld_blt I hg hm hv ?_ hn hdb)
 exact PyProof.Rows.callWith_builtin1 (thn (ha pos pins s σ H _ I h) fun us s1 ⟨vs, H1, I1, r1, q1⟩ => hc pins s1 σ H1 vs us Q I1 r1 q1) he hpl
theorem pe_callTy (hc : CallR X (.type T) r) (hg : Gl X x) (hm : X.mg x = none) (hv : bootBuiltins x = some (.type T)) (ha : PA X (e :: es) t) (hn : x ≠ "__name__" := by decide) (hdb : (x == ("__debug__" : Str)) = false := by decide)
  (he : starEach (e :: es) X.env = (false, eval e X.env) :: starEach es X.env := by rfl) (hpl : (backTo pos (starEach es X.env)).any (·.1) = false := by rfl) : PE X (.Call (.Name x p) (e :: es) [] pos) (tCB r t) := by
 intro pins s σ H Q I h
 refine wpAny_Call_Name_kw (ld_blt I hg hm hv ?_ hn hdb)
 exact PyProof.Rows.callWith_type1 (thn (ha pos pins s σ H _ I h) fun us s1 ⟨vs, H1, I1, r1, q1⟩ => hc pins s1 σ H1 vs us Q I1 r1 q1) he hpl
theorem pe_callTy0 (hc : CallR X (.type T) r) (hg : Gl X x) (hm : X.mg x = none) (hv : bootBuiltins x = some (.type T)) (hn : x ≠ "__name__" := by decide) (hdb : (x == ("__debug__" : Str)) = false := by decide) :
  PE X (.Call (.Name x p) [] [] pos) (tCB r tNil) := by
 intro pins s σ H Q I h
 refine wpAny_Call_Name_kw (ld_blt I hg hm hv ?_ hn hdb)
 exact PyProof.Rows.callWith_type0 (hc pins s σ H [] [] Q I .nil h)
end
end L2
namespace HT
open PySem PyProof.Rows
noncomputable def lexLt : List Int → List Int → Bool
 | [], [] => false
 | [], _ :: _ => true
 | _ :: _, [] => false
 | x :: xs, y :: ys => if x = y then lexLt xs ys else decide (x < y)
section
open PySem.SeqAt
open PySem.AutoSeq1 (wpAny_loadPart')
open PySem.MeetsSeq PySem.MeetsSeq2 PySem.MeetsSeq3
end
section
variable {prog : Program} {w : World} {A : Around} {E : Value → Shared → Prop} {s : Shared}
theorem cat_tup {t b : Addr} {vs ws : List Value} {Q : Value → Shared → Prop} (ht : IsTup s.heap t vs.toArray) (hb : IsTup s.heap b ws.toArray) (hv : vs ≠ [])
  (h1 : ws = [] → Q (.ref t) s) (h2 : ws ≠ [] → Q (.ref s.heap.objs.size) { s with heap := s.heap.push { cls := .type "tuple", data := .seq (vs ++ ws).toArray } })
  (hsz : vs.length + ws.length ≤ sizeLine) : wpAny (model prog w) A (binaryOp .Add (.ref t) (.ref b)) Q E s := by
 obtain ⟨⟨cls, dd, data, sl⟩, ho, hc, n, hd⟩ := id ht
 obtain ⟨⟨cls2, dd2, data2, sl2⟩, ho2, hc2, n2, hd2⟩ := id hb
 simp only at hc hd hc2 hd2
 subst hc hd hc2 hd2
 have e : vs.toArray ++ ws.toArray = (vs ++ ws).toArray := by simp
 by_cases hw : ws = []
 ·exact concat_meets ⟨_, ho, rfl⟩ ⟨_, ho2, rfl⟩ noFill_tuple_add seq_tuple_add PySem.F.slot_tuple_add PySem.F.entry_tuple_add (PySem.F.args_tuple_add_2 _ _)
   (tuple_addW1 t b vs.toArray ws.toArray n n2 dd dd2 sl sl2 (by simpa using hv) (by simp [hw])) ⟨ho, ho2, h1 hw⟩
 ·refine concat_meets ⟨_, ho, rfl⟩ ⟨_, ho2, rfl⟩ noFill_tuple_add seq_tuple_add PySem.F.slot_tuple_add PySem.F.entry_tuple_add (PySem.F.args_tuple_add_2 _ _)
   (tuple_addW2 t b vs.toArray ws.toArray n n2 dd dd2 sl sl2 (by simpa using hv) (by simpa using hw) (by rw [List.size_toArray, List.size_toArray]; exact hsz)) ⟨ho, ho2, ?_⟩
  rw [e]
  exact h2 hw
noncomputable def sIx (n d : Nat) : Option Int → Nat
 | none => d
 | some v => if v < 0 then (v + (n : Int)).toNat else min v.toNat n
end
end HT
namespace L2
open PySem PySem.Spec PyProof.Rows
abbrev TO := St → Hp → (Option Int → Hp → Prop) → Prop
noncomputable def PO (X : Cx) (e : Option Expr) (t : TO) : Prop :=
 ∀ (pins : List (Addr × Obj)) (s : Shared) (σ : St) (H : Hp) (Q : Option Int → Hp → Prop), Inv X pins σ H s → t σ H Q →
  wpAny (model X.prog X.w) X.A (evalPart e X.env) (fun u s' => ∃ o H', Inv X pins σ H' s' ∧ IsPart u o ∧ Q o H') X.xe s
noncomputable def tNoPart : TO := fun _ H Q => Q none H
noncomputable def tPart (t : TE) : TO := fun σ H Q => t σ H fun x H1 => ∃ i, x = .int i ∧ Q (some i) H1
section
variable {X : Cx} {e : Expr} {te : TE} {lo hi : Option Expr} {tl th : TO} {pos p2 : Pos}
theorem po_none : PO X none tNoPart := by
 intro pins s σ H Q I h
 rw [evalPart_none]
 exact wpAny_pure ⟨none, H, I, .none, h⟩
theorem po_some (h : PE X e te) : PO X (some e) (tPart te) := by
 intro pins s σ H Q I hw
 rw [evalPart_some]
 refine thn (h pins s σ H _ I hw) fun u s1 hZ_ => ?_
 obtain ⟨x, H1, I1, r1, q1⟩ := hZ_
 obtain ⟨i, rfl, q⟩ := q1
 obtain ⟨t, rfl⟩ := r1
 exact ⟨some i, H1, I1, .int i t, q⟩
noncomputable def SlR (X : Cx) (r : V → Option Int → Option Int → Hp → VK → Prop) : Prop :=
 ∀ (pins : List (Addr × Obj)) (s : Shared) (σ : St) (H : Hp) (x : V) (v vl vu : Value) (lo hi : Option Int) (sl : Addr) (Q : VK), Inv X pins σ H s → RelV x v → s.heap.IsSliceOf sl vl vu .none → IsPart vl lo → IsPart vu hi → r x lo hi H Q →
  ∃ T id, typeLookup (.type T) "__getitem__" = pure (some (.builtin id)) ∧ s.TypeIs v T ∧ wpAny (model X.prog X.w) X.A (getItem v (.ref sl)) (EP X pins σ Q) X.xe s
noncomputable def tSl (r : V → Option Int → Option Int → Hp → VK → Prop) (te : TE) (tl th : TO) : TE := fun σ H Q => te σ H fun x H1 => tl σ H1 fun l H2 => th σ H2 fun u H3 => r x l u H3 Q
theorem pe_slice {r : V → Option Int → Option Int → Hp → VK → Prop} (hr : SlR X r) (he : PE X e te) (hl : PO X lo tl) (hu : PO X hi th) : PE X (.Subscript e (.Slice lo hi none p2) pos) (tSl r te tl th) := by
 intro pins s σ H Q I h
 refine Subscript_ (thn (he pins s σ H _ I h) fun v s1 hZ_ => ?_)
 obtain ⟨x, H1, I1, r1, q1⟩ := hZ_
 refine wpAny_Slice (thn (hl pins s1 σ H1 _ I1 q1) fun vl s2 ⟨l, H2, I2, pl, q2⟩ => thn (hu pins s2 σ H2 _ I2 q2) fun vu s3 hZ_ => ?_)
 obtain ⟨u, H3, I3, pu, q3⟩ := hZ_
 rw [evalPart_none]
 refine wpAny_pure ?_
 have I4 : Inv X pins σ H3 { s3 with heap := s3.heap.push { cls := .type "slice", data := .fields #[vl, vu, .none] } } := I3.kept (t' := s3.toks) fun b ob q => Heap.get?_push_of_some _ q
 obtain ⟨T, id, hT, ht, hg⟩ := hr pins { s3 with heap := s3.heap.push { cls := .type "slice", data := .fields #[vl, vu, .none] } } σ H3 x v vl vu l u s3.heap.objs.size Q I4 r1 (Heap.IsSliceOf.new ..) pl pu q3
 show wpAny (model X.prog X.w) X.A (subscriptTail e (.Slice lo hi none p2) v (.ref s3.heap.objs.size)) (EP X pins σ Q) X.xe { s3 with heap := s3.heap.push { cls := .type "slice", data := .fields #[vl, vu, .none] } }
 exact tail_any (ops := [.ref s3.heap.objs.size, v]) ht hT hg (by with_unfolding_all rfl)
noncomputable def cutV (xs : List V) (lo hi : Option Int) : List V := (xs.drop (HT.sIx xs.length 0 lo)).take (HT.sIx xs.length xs.length hi - HT.sIx xs.length 0 lo)
theorem cutV_length (xs : List V) (lo hi : Option Int) : (cutV xs lo hi).length ≤ xs.length := by
 unfold cutV
 rw [List.length_take, List.length_drop]
 omega
noncomputable def rCatT (K : PySem.W.Frag) : R2 := fun x y H Q => ∃ a b xs ys, x = .ref a ∧ y = .ref b ∧ SqT K H a xs ∧ SqT K H b ys ∧ xs ≠ [] ∧ xs.length + ys.length ≤ sizeLine ∧
 (ys = [] → Q (.ref a) H) ∧ (ys ≠ [] → ∀ p, H p = none → Q (.ref p) (upd H p (.tup (xs ++ ys))))
theorem Vals.nil_iff {xs : List V} {us : List Value} (r : Vals xs us) : us = [] ↔ xs = [] := by
 cases r with
 | nil => simp
 | cons _ _ => simp
theorem op_catT : OpR X (binaryOp .Add) (rCatT X.K) := by
 intro pins s σ H x y v u Q I rx ry h
 obtain ⟨a, b, xs, ys, rfl, rfl, ha, hb, hx, hz, q1, q2⟩ := h
 cases rx
 cases ry
 obtain ⟨its, r1, p1, _⟩ := I.tuple ha
 obtain ⟨its2, r2, p2, _⟩ := I.tuple hb
 refine HT.cat_tup p1 p2 (fun z => hx (r1.nil_iff.mp z)) (fun z => ⟨.ref a, H, I, rfl, q1 (r2.nil_iff.mp z)⟩) (fun z => ?_) (by rw [← r1.length, ← r2.length]; exact hz)
 refine ⟨.ref s.heap.objs.size, _, I.laid (t' := s.toks) (o := .tup (xs ++ ys)) (fun b ob q => Heap.get?_push_of_some _ q) (Nat.le_refl _) ?_, rfl, q2 (fun w => z (r2.nil_iff.mpr w)) _ (I.hok.fresh (Nat.le_refl _))⟩
 exact ⟨by rw [List.length_append]; exact hz, _, r1.append r2, IsTup.new _ _⟩
end
end L2
namespace L2
open PySem PySem.Spec PyProof.Rows
noncomputable def ixN (n : Nat) (i : Int) : Option Nat := if 0 ≤ i then (if i < n then some i.toNat else none) else if -(n : Int) ≤ i then some (i + n).toNat else none
noncomputable def atI {α : Type} (xs : List α) (i : Int) : Option α := (ixN xs.length i).bind fun j => xs[j]?
theorem ixN_seq {n : Nat} {i : Int} {j : Nat} (h : ixN n i = some j) : seqIndex? i n = some j ∧ j < n ∧ -(n : Int) ≤ i ∧ i < n := by
 unfold ixN at h
 by_cases h0 : 0 ≤ i
 ·rw [if_pos h0] at h
  by_cases h1 : i < n
  ·rw [if_pos h1] at h
   have e : i.toNat = j := Option.some.inj h
   exact ⟨by rw [seqIndex_of h0 h1, e], by omega, by omega, h1⟩
  ·rw [if_neg h1] at h; cases h
 ·rw [if_neg h0] at h
  by_cases h1 : -(n : Int) ≤ i
  ·rw [if_pos h1] at h
   have e : (i + n).toNat = j := Option.some.inj h
   exact ⟨by rw [seqIndex_neg (by omega) h1, e], by omega, h1, by omega⟩
  ·rw [if_neg h1] at h; cases h
theorem atI_get {α : Type} {xs : List α} {i : Int} {v : α} (h : atI xs i = some v) : ∃ j, seqIndex? i xs.length = some j ∧ xs[j]? = some v ∧ j < xs.length ∧ -(xs.length : Int) ≤ i ∧ i < xs.length := by
 unfold atI at h
 cases e : ixN xs.length i with
 | none => rw [e] at h; cases h
 | some j =>
  rw [e] at h
  obtain ⟨h1, h2, h3, h4⟩ := ixN_seq e
  exact ⟨j, h1, h, h2, h3, h4⟩
noncomputable def PlainIx (b : Expr) : Prop := ∀ o i, subscripted b false o i = operate [o, i] (getItem o i)
noncomputable def IxR (X : Cx) (r : R2) : Prop :=
 ∀ (value slice : Expr) (pins : List (Addr × Obj)) (s : Shared) (σ : St) (H : Hp) (x y : V) (v u : Value) (Q : VK), Inv X pins σ H s → RelV x v → RelV y u → r x y H Q →
  subscripted slice false v u = operate [v, u] (getItem v u) → wpAny (model X.prog X.w) X.A (subscriptTail value slice v u) (EP X pins σ Q) X.xe s
noncomputable def MtR (X : Cx) (id : String) (r : V → List V → Hp → VK → Prop) : Prop :=
 ∀ (pins : List (Addr × Obj)) (s : Shared) (σ : St) (H : Hp) (x : V) (xs : List V) (v : Value) (us : List Value) (Q : VK), Inv X pins σ H s → RelV x v → Vals xs us → r x xs H Q →
  wpAny (model X.prog X.w) X.A (call (.builtin id) (v :: us)) (EP X pins σ Q) X.xe s
section
variable {X : Cx} {a b : Expr} {ta tb : TE} {pos : Pos}
theorem pe_ix {r : R2} (hr : IxR X r) (ha : PE X a ta) (hb : PE X b tb) (hs : PlainIx b) : PE X (.Subscript a b pos) (tOp r ta tb) := by
 intro pins s σ H Q I h
 exact Subscript_ (binT ha hb I h fun v u s2 x y H2 I2 rx ry q => hr a b pins s2 σ H2 x y v u Q I2 rx ry q (hs _ _))
noncomputable def rIxL (K : PySem.W.Frag) : R2 := fun x y H Q => ∃ p xs i v, x = .ref p ∧ y = .int i ∧ SqL K H p xs ∧ atI xs i = some v ∧ Q v H
noncomputable def rIxT (K : PySem.W.Frag) : R2 := fun x y H Q => ∃ p xs i v, x = .ref p ∧ y = .int i ∧ SqT K H p xs ∧ atI xs i = some v ∧ Q v H
noncomputable def rIxS : R2 := fun x y H Q => ∃ z i c, x = .str z ∧ y = .int i ∧ z.length ≤ sizeLine ∧ atI z.cps.toList i = some c ∧ Q (.str ⟨#[c]⟩) H
theorem ix_list : IxR X (rIxL X.K) := by
 intro value slice pins s σ H x y v u Q I rx ry h hs
 obtain ⟨p, xs, i, z, rfl, rfl, hq, he, q⟩ := h
 cases rx
 obtain ⟨t, rfl⟩ := ry
 obtain ⟨its, r, pl, hz⟩ := I.list hq
 obtain ⟨j, h1, h2, h3, h4, h5⟩ := atI_get he
 obtain ⟨w, ew, rw'⟩ := r.get h2
 have hl := r.length
 have hn := line63
 have fin : EP X pins σ Q w s := ⟨z, H, I, rw', q⟩
 by_cases h0 : 0 ≤ i
 ·have hj : i.toNat = j := by
   rw [seqIndex_of h0 h5] at h1
   exact Option.some.inj h1
  exact item_listR pl.isList h0 (by omega) (by rw [hj]; simpa using ew) fin hs
 ·have hj : (i + (its.toArray.size : Int)).toNat = j := by
   rw [seqIndex_neg (by omega) h4] at h1
   rw [List.size_toArray, ← hl]
   exact Option.some.inj h1
  exact subscriptTail_builtinR (x := w) pl.isList.typeIs slot_list_getitem.lookup
   (wpAny_getItem_list_neg (Q := fun r s' => r = w ∧ EP X pins σ Q r s') pl.isList (by omega) (by rw [List.size_toArray] <;> omega) (by omega) (by rw [hj]; simpa using ew) ⟨rfl, fin⟩) hs
theorem ix_tup : IxR X (rIxT X.K) := by
 intro value slice pins s σ H x y v u Q I rx ry h hs
 obtain ⟨p, xs, i, z, rfl, rfl, hq, he, q⟩ := h
 cases rx
 obtain ⟨t, rfl⟩ := ry
 obtain ⟨its, r, pl, hz⟩ := I.tuple hq
 obtain ⟨j, h1, h2, h3, h4, h5⟩ := atI_get he
 obtain ⟨w, ew, rw'⟩ := r.get h2
 have hl := r.length
 have hn := line63
 have fin : EP X pins σ Q w s := ⟨z, H, I, rw', q⟩
 exact subscriptTail_builtinR (x := w) pl.typeIs slot_tuple_getitem.lookup
  (getItem_tuple (j := j) (Q := fun r s' => r = w ∧ EP X pins σ Q r s') pl (by omega) (by omega) (by rw [List.size_toArray, ← hl]; exact h1) (by simpa using ew) ⟨rfl, fin⟩) hs
theorem ix_str : IxR X rIxS := by
 intro value slice pins s σ H x y v u Q I rx ry h hs
 obtain ⟨z, i, c, rfl, rfl, hz, he, q⟩ := h
 obtain ⟨t, rfl⟩ := rx
 obtain ⟨t', rfl⟩ := ry
 obtain ⟨j, h1, h2, h3, h4, h5⟩ := atI_get he
 have hl : z.cps.toList.length = z.length := by simp [Str.length]
 rw [hl] at h1 h4 h5
 have hn := line63
 exact tail_any (typeIs_str s z t) slot_str_getitem.lookup (getItem_str (c := c) (by
  have e1 : decide (i < -(2 ^ 63 : Int)) = false := decide_eq_false (by omega)
  have e2 : decide (i ≥ 2 ^ 63) = false := decide_eq_false (by omega)
  rw [e1, e2, Bool.or_false]) (by rw [h1]; simpa using h2) ⟨.str ⟨#[c]⟩, H, I.tok _, ⟨_, rfl⟩, q⟩) hs
theorem mapSeq_set (its : List Value) (n j : Nat) (u : Value) : Obj.mapSeq (·.setIfInBounds j u) { cls := .type "list", data := .seq its.toArray n } = { cls := .type "list", data := .seq (its.set j u).toArray n } := by
 simp [Obj.mapSeq]
theorem Inv.lst {pins : List (Addr × Obj)} {σ : St} {H : Hp} {s : Shared} {p : Addr} {xs : List V} (I : Inv X pins σ H s) (h : H p = some (.lst xs)) :
  ∃ (its : List Value) (n : Nat), Vals xs its ∧ s.heap.get? p = some { cls := .type "list", data := .seq its.toArray n } ∧ xs.length ≤ sizeLine := by
 obtain ⟨z, its, n, r, e⟩ := I.hok p _ h
 exact ⟨its, n, r, e, z⟩
theorem Inv.lstUpd {pins : List (Addr × Obj)} {σ : St} {H : Hp} {s : Shared} {p : Addr} {xs ys : List V} {its its' : List Value} {n n' : Nat} {f : Obj → Obj} (I : Inv X pins σ H s) (h : H p = some (.lst xs))
  (ho : s.heap.get? p = some { cls := .type "list", data := .seq its.toArray n }) (hf : f { cls := .type "list", data := .seq its.toArray n } = { cls := .type "list", data := .seq its'.toArray n' }) (r : Vals ys its') (hz : ys.length ≤ sizeLine) (t : Nat) :
  Inv X pins σ (upd H p (.lst ys)) { s with heap := s.heap.update p f, toks := t } := by
 have e : (s.heap.update p f).get? p = some { cls := .type "list", data := .seq its'.toArray n' } := by
  rw [Heap.get?_update_self f ho (by rw [hf] <;> rfl), hf]
 refine I.write (x := p) (e := p) (by rw [h]; trivial) (.inl rfl) (fun b u hb q => (Heap.get?_update_other _ _ (Ne.symm hb)).trans q) ⟨_, e⟩ ?_
 exact ⟨hz, its', n', r, e⟩
noncomputable def rSetL : V → V → V → Hp → (Hp → Prop) → Prop := fun o i v H Q => ∃ p xs k j, o = .ref p ∧ i = .int k ∧ H p = some (.lst xs) ∧ ixN xs.length k = some j ∧ Q (upd H p (.lst (xs.set j v)))
theorem set_list : PSet X rSetL := by
 intro pins s σ H o i v ov iv u Q I ro ri rv h
 obtain ⟨p, xs, k, j, rfl, rfl, hp, hj, q⟩ := h
 cases ro
 obtain ⟨t, rfl⟩ := ri
 obtain ⟨its, n, r, ho, hz⟩ := I.lst hp
 obtain ⟨h1, h2, h3, h4⟩ := ixN_seq hj
 have hl := r.length
 have hn := line63
 have I' : Inv X pins σ (upd H p (.lst (xs.set j v))) { s with heap := s.heap.update p (Obj.mapSeq (·.setIfInBounds j u)) } :=
  I.lstUpd hp ho (mapSeq_set its n j u) (r.set rv j) (by rw [List.length_set]; exact hz) s.toks
 by_cases h0 : 0 ≤ k
 ·have hk : k.toNat = j := by
   rw [seqIndex_of h0 h4] at h1
   exact Option.some.inj h1
  exact PySem.W.ki_setAt ho h0 (by omega) (by rw [List.size_toArray, ← hl]; exact h4) (by rw [hk]; exact ⟨_, I', q⟩)
 ·have hk : (k + (its.toArray.size : Int)).toNat = j := by
   rw [seqIndex_neg (by omega) h3] at h1
   rw [List.size_toArray, ← hl]
   exact Option.some.inj h1
  exact PySem.W.ki_setBack ho (by omega) (by rw [List.size_toArray, ← hl]; exact h3) (by omega) (by rw [hk]; exact ⟨_, I', q⟩)
theorem slice_bounds (lo hi : Option Int) (n : Nat) : (sliceBounds lo hi none n).1 = ((HT.sIx n 0 lo : Nat) : Int) ∧ (sliceBounds lo hi none n).2.1 = ((HT.sIx n n hi : Nat) : Int) ∧ (sliceBounds lo hi none n).2.2 = 1 := by
 refine ⟨?_, ?_, rfl⟩
 ·cases lo with
  | none => simp [sliceBounds, HT.sIx]
  | some i =>
   simp only [sliceBounds, HT.sIx, Option.getD_none, show (1 : Int) > 0 by decide, if_true]
   by_cases h : i < 0
   ·simp only [h, if_true] <;> omega
   ·simp only [h, if_false] <;> omega
 ·cases hi with
  | none => simp [sliceBounds, HT.sIx]
  | some i =>
   simp only [sliceBounds, HT.sIx, Option.getD_none, show (1 : Int) > 0 by decide, if_true]
   by_cases h : i < 0
   ·simp only [h, if_true] <;> omega
   ·simp only [h, if_false] <;> omega
theorem slicePick_cut (its : List Value) (lo hi : Option Int) : slicePick its.toArray lo hi none = ((its.drop (HT.sIx its.length 0 lo)).take (HT.sIx its.length its.length hi - HT.sIx its.length 0 lo)).toArray := by
 obtain ⟨h1, h2, h3⟩ := slice_bounds lo hi its.toArray.size
 unfold slicePick
 rw [h1, h2, h3]
 simp only [sliceRange_one, pick_run, List.size_toArray] <;> rfl
noncomputable def rSlL (K : PySem.W.Frag) : V → Option Int → Option Int → Hp → VK → Prop := fun x lo hi H Q => ∃ a xs, x = .ref a ∧ SqL K H a xs ∧ ∀ p, H p = none → Q (.ref p) (upd H p (.lst (cutV xs lo hi)))
theorem sl_list : SlR X (rSlL X.K) := by
 intro pins s σ H x v vl vu lo hi sl Q I rx hs pl pu h
 obtain ⟨a, xs, rfl, hx, q⟩ := h
 cases rx
 obtain ⟨its, r, ht, hz⟩ := I.list hx
 have hlen := r.length
 refine ⟨"list", _, slot_list_getitem.lookup, ht.isList.typeIs, ?_⟩
 refine wpAny_getItem_list_slice ht.isList hs pl pu .none (by simp) ?_ (by rw [List.size_toArray] <;> omega)
 rw [slicePick_cut, ← hlen]
 refine ⟨.ref s.heap.objs.size, _, I.laid (t' := s.toks) (o := .lst (cutV xs lo hi)) (fun b ob q => Heap.get?_push_of_some _ q) (Nat.le_refl _) ?_, rfl, q _ (I.hok.fresh (Nat.le_refl _))⟩
 exact ⟨Nat.le_trans (cutV_length xs lo hi) hz, _, 0, (r.drop (HT.sIx xs.length 0 lo)).take (HT.sIx xs.length xs.length hi - HT.sIx xs.length 0 lo), Heap.get?_push_size _ rfl⟩
theorem call_len_seq : CallR X (.builtin "len") (fun xs H Q => ∃ p ys, xs = [.ref p] ∧ (SqL X.K H p ys ∨ SqT X.K H p ys) ∧ Q (.int ys.length) H) := by
 intro pins s σ H xs us Q I r h
 obtain ⟨p, ys, rfl, hq, q⟩ := h
 obtain ⟨u, rfl, rx⟩ := vals1 r
 cases rx
 have hn := line63
 rcases hq with hq | hq
 ·obtain ⟨its, r', pl, hz⟩ := I.list hq
  have hlen := r'.length
  exact Calls.call_len_list pl.isList (by simp only [List.size_toArray] <;> omega) ⟨.int ys.length, H, I.tok _, ⟨s.toks + 1, by rw [List.size_toArray, hlen]⟩, q⟩
 ·obtain ⟨its, r', pl, hz⟩ := I.tuple hq
  have hlen := r'.length
  exact len_tuple pl (by simp only [List.size_toArray] <;> omega) ⟨.int ys.length, H, I.tok _, ⟨s.toks + 1, by rw [List.size_toArray, hlen]⟩, q⟩
theorem call_len_str : CallR X (.builtin "len") (fun xs H Q => ∃ z, xs = [.str z] ∧ z.length ≤ sizeLine ∧ Q (.int z.length) H) := by
 intro pins s σ H xs us Q I r h
 obtain ⟨z, rfl, hz, q⟩ := h
 obtain ⟨u, rfl, t, rfl⟩ := vals1 r
 have hn := line63
 exact len_str (by omega) ⟨.int z.length, H, I.tok _, ⟨_, rfl⟩, q⟩
theorem call_list_of : CallR X (.type "list") (fun xs H Q => ∃ p ys, xs = [.ref p] ∧ (SqL X.K H p ys ∨ SqT X.K H p ys) ∧ ∀ l, H l = none → Q (.ref l) (upd H l (.lst ys))) := by
 intro pins s σ H xs us Q I r h
 obtain ⟨p, ys, rfl, hq, q⟩ := h
 obtain ⟨u, rfl, rx⟩ := vals1 r
 cases rx
 have fin : ∀ (its : List Value), Vals ys its → ys.length ≤ sizeLine → ∀ (h' : Heap) (c' : Nat), (∀ b o', s.heap.get? b = some o' → h'.get? b = some o') →
   h'.get? s.heap.objs.size = some { cls := .type "list", dict := none, data := .seq its.toArray c', slots := #[] } → EP X pins σ Q (.ref s.heap.objs.size) { s with heap := h' } := fun its r' hz h' c' kp e =>
  ⟨.ref s.heap.objs.size, _, I.laid (t' := s.toks) kp (Nat.le_refl _) (show ObjOk X.prog X.w _ h' _ (.lst ys) from ⟨hz, its, c', r', e⟩), rfl, q _ (I.hok.fresh (Nat.le_refl _))⟩
 rcases hq with hq | hq
 ·obtain ⟨its, r', pl, hz⟩ := I.list hq
  have hlen := r'.length
  obtain ⟨o, ho, hc, n, hd⟩ := pl.isList
  exact call_list_seq p (.inl rfl) ho hc hd (fun h' c' kp e => fin its r' hz h' c' kp e) (by simp only [List.size_toArray] <;> omega)
 ·obtain ⟨its, r', pl, hz⟩ := I.tuple hq
  have hlen := r'.length
  obtain ⟨o, ho, hc, n, hd⟩ := pl
  exact call_list_seq p (.inr rfl) ho hc hd (fun h' c' kp e => fin its r' hz h' c' kp e) (by simp only [List.size_toArray] <;> omega)
theorem call_tuple_of : CallR X (.type "tuple") (fun xs H Q => ∃ p ys, xs = [.ref p] ∧ ((SqL X.K H p ys ∧ ∀ l, H l = none → Q (.ref l) (upd H l (.tup ys))) ∨ (SqT X.K H p ys ∧ Q (.ref p) H))) := by
 intro pins s σ H xs us Q I r h
 obtain ⟨p, ys, rfl, h⟩ := h
 obtain ⟨u, rfl, rx⟩ := vals1 r
 cases rx
 rcases h with ⟨hq, q⟩ | ⟨hq, q⟩
 ·obtain ⟨its, r', pl, hz⟩ := I.list hq
  have hlen := r'.length
  refine call_tuple_list pl.isList (fun h' kp => ?_) (by simp only [List.size_toArray] <;> omega)
  have I1 : Inv X pins σ H { s with heap := h' } := I.kept (t' := s.toks) kp
  have I2 : Inv X pins σ (upd H h'.objs.size (.tup ys)) { s with heap := h'.push { cls := .type "tuple", data := .seq its.toArray } } :=
   I1.laid (t' := s.toks) (fun b o e => Heap.get?_push_of_some _ e) (Nat.le_refl _) (show ObjOk X.prog X.w _ _ _ (.tup ys) from ⟨hz, its, r', IsTup.new _ _⟩)
  exact ⟨.ref h'.objs.size, _, I2, rfl, q _ (I1.hok.fresh (Nat.le_refl _))⟩
 ·obtain ⟨its, r', pl, hz⟩ := I.tuple hq
  exact call_tuple_same pl ⟨.ref p, H, I, rfl, q⟩
noncomputable def tyV (K : PySem.W.Frag) (T : String) (x : V) (H : Hp) : Prop := match x with
 | .str _ => T = "str"
 | .int _ => T = "int"
 | .ref p => (T = "list" ∧ ∃ xs, SqL K H p xs) ∨ (T = "tuple" ∧ ∃ o, K.lookup p = some o ∧ o.cls = .type "tuple" ∧ o.dict = none) ∨
   (T = "dict" ∧ ((∃ kvs, H p = some (.dK kvs)) ∨ ∃ kvs, H p = some (.dT kvs))) ∨ (T = "set" ∧ ∃ S n, H p = some (.set S n))
 | _ => False
theorem tyV_is {pins : List (Addr × Obj)} {σ : St} {H : Hp} {s : Shared} {T : String} {x : V} {v : Value} (I : Inv X pins σ H s) (r : RelV x v) (ty : tyV X.K T x H) :
  s.TypeIs v T ∧ ∀ a, v = .ref a → ∃ ob, s.heap.get? a = some ob ∧ ob.dict = none := by
 cases x with
 | str z =>
  obtain ⟨t, rfl⟩ := r
  cases (show T = "str" from ty)
  exact ⟨typeIs_str s z t, fun _ e => nomatch e⟩
 | int i =>
  obtain ⟨t, rfl⟩ := r
  cases (show T = "int" from ty)
  exact ⟨typeIs_int s i t, fun _ e => nomatch e⟩
 | ref p =>
  cases r
  rcases ty with ⟨rfl, xs, hq⟩ | ⟨rfl, o, hk, hc, hd⟩ | ⟨rfl, hk⟩ | ⟨rfl, S, n, hk⟩
  ·obtain ⟨its, _, pl, _⟩ := I.list hq
   refine ⟨pl.isList.typeIs, fun a e => ?_⟩
   cases e
   obtain ⟨o, n, e, c, hd, _⟩ := pl
   exact ⟨o, e, hd⟩
  ·refine ⟨⟨o, I.kIn p o hk, hc⟩, fun a e => ?_⟩
   cases e
   exact ⟨o, I.kIn _ o hk, hd⟩
  ·have z : ∃ o, s.heap.get? p = some o ∧ o.ExactDict := by
    rcases hk with ⟨kvs, hk⟩ | ⟨kvs, hk⟩
    ·obtain ⟨_, _, _, _, o, _, _, e, ex, _⟩ := I.hok p _ hk
     exact ⟨o, e, ex⟩
    ·obtain ⟨_, _, _, _, o, _, _, e, ex, _⟩ := I.hok p _ hk
     exact ⟨o, e, ex⟩
   obtain ⟨o, e, ex⟩ := z
   refine ⟨⟨o, e, ex.1⟩, fun a e2 => ?_⟩
   cases e2
   exact ⟨o, e, ex.2.1⟩
  ·obtain ⟨o, _, _, _, e, ex, _⟩ := I.hok p _ hk
   refine ⟨⟨o, e, ex.1⟩, fun a e2 => ?_⟩
   cases e2
   exact ⟨o, e, ex.2.1⟩
 | _ => exact False.elim ty
variable {o e : Expr} {es : List Expr} {to : TE} {t : TA} {name : Str} {apos cpos : Pos} {T id : String} {r : V → List V → Hp → VK → Prop}
end
end L2
namespace L2
open PySem PySem.Spec PyProof.Rows
noncomputable def MtM (X : Cx) (id : String) (r : V → List V → Hp → VK → Prop) : Prop :=
 ∀ (pins : List (Addr × Obj)) (s : Shared) (σ : St) (H : Hp) (x : V) (xs : List V) (v : Value) (us : List Value) (Q : VK), Inv X pins σ H s → RelV x v → Vals xs us → r x xs H Q →
  wpAny (model X.prog X.w) X.A (call (.builtin id) (v :: us)) (EP X pins σ Q) X.xe s
theorem Vals.one : ∀ {x : V} {us : List Value}, Vals [x] us → ∃ u, us = [u] ∧ RelV x u := by
 intro x us h
 cases h with | cons r t => cases t; exact ⟨_, rfl, r⟩
theorem Vals.zero : ∀ {us : List Value}, Vals [] us → us = []
 | _, .nil => rfl
theorem Vals.reverse {xs : List V} {us : List Value} (h : Vals xs us) : Vals xs.reverse us.reverse := by
 induction h with
 | nil => exact .nil
 | cons r t ih => rw [List.reverse_cons, List.reverse_cons]; exact Vals.append ih (.cons r .nil)
section
variable {X : Cx} {pins : List (Addr × Obj)} {σ : St} {H : Hp} {s : Shared} {l b : Addr} {xs ys zs : List V}
theorem Inv.lset {its its' : List Value} {n : Nat} {f : Array Value → Array Value} {t' : Nat} (I : Inv X pins σ H s) (hH : H l = some (.lst xs))
  (e : s.heap.get? l = some { cls := .type "list", data := .seq its.toArray n }) (hf : f its.toArray = its'.toArray) (hv : Vals ys its') (hz : ys.length ≤ sizeLine) :
  Inv X pins σ (upd H l (.lst ys)) { s with heap := s.heap.update l (Obj.mapSeq f), toks := t' } := by
 have q := PySem.IsL.update e f
 rw [hf] at q
 refine I.write (x := l) (e := l) (by rw [hH]; exact trivial) (.inl rfl) (fun b' u hb hu => (Heap.get?_update_other s.heap (Obj.mapSeq f) (Ne.symm hb)).trans hu) ⟨_, q⟩ ?_
 exact ⟨hz, its', _, hv, q⟩
theorem Inv.lnew {its : List Value} {t' : Nat} (I : Inv X pins σ H s) (hv : Vals ys its) (hz : ys.length ≤ sizeLine) :
  Inv X pins σ (upd H s.heap.objs.size (.lst ys)) { s with heap := s.heap.push { cls := .type "list", data := .seq its.toArray }, toks := t' } :=
 I.laid (fun _ _ q => Heap.get?_push_of_some _ q) (Nat.le_refl _) ⟨hz, its, 0, hv, Heap.get?_push_size _ rfl⟩
theorem Inv.fresh (I : Inv X pins σ H s) : H s.heap.objs.size = none := I.hok.fresh (Nat.le_refl _)
theorem Inv.lstM (I : Inv X pins σ H s) (hH : H l = some (.lst xs)) : xs.length ≤ sizeLine ∧ ∃ (its : List Value) (n : Nat), Vals xs its ∧ xs.length = its.length ∧ s.heap.get? l = some { cls := .type "list", data := .seq its.toArray n } := by
 obtain ⟨z, its, n, r, e⟩ := I.hok l _ hH
 exact ⟨z, its, n, r, r.length, e⟩
end
section
variable {X : Cx}
noncomputable def rAppend : V → List V → Hp → VK → Prop := fun x vs H Q => ∃ l xs y, x = .ref l ∧ vs = [y] ∧ H l = some (.lst xs) ∧ xs.length < sizeLine ∧ Q .non (upd H l (.lst (xs ++ [y])))
theorem mt_append : MtM X "list.append" rAppend := by
 intro pins s σ H x vs v us Q I rx rv h
 obtain ⟨l, xs, y, rfl, rfl, hH, hz, q⟩ := h
 cases rx
 obtain ⟨u, rfl, ru⟩ := rv.one
 obtain ⟨z, its, n, r, hl, e⟩ := I.lstM hH
 refine call_meets F.slot_list_append ⟨_, e, rfl⟩ F.entry_list_append (F.args_list_append_2 _ _) (PySem.list_append l its.toArray n u (by rw [List.size_toArray]; omega)) ⟨e, ?_⟩
 refine ⟨.non, _, I.lset (its' := its ++ [u]) hH e (by simp) (r.append (.cons ru .nil)) ?_, rfl, q⟩
 rw [List.length_append, List.length_singleton]
 omega
noncomputable def rReverse : V → List V → Hp → VK → Prop := fun x vs H Q => ∃ l xs, x = .ref l ∧ vs = [] ∧ H l = some (.lst xs) ∧ Q .non (upd H l (.lst xs.reverse))
theorem mt_reverse : MtM X "list.reverse" rReverse := by
 intro pins s σ H x vs v us Q I rx rv h
 obtain ⟨l, xs, rfl, rfl, hH, q⟩ := h
 cases rx
 have hus := rv.zero
 subst hus
 obtain ⟨z, its, n, r, hl, e⟩ := I.lstM hH
 refine call_meets F.slot_list_reverse ⟨_, e, rfl⟩ F.entry_list_reverse (F.args_list_reverse_1 _) (AutoSeq1.list_reverse_list_0 l its.toArray n (by rw [List.size_toArray]; omega)) ⟨e, ?_⟩
 refine ⟨.non, _, I.lset (its' := its.reverse) hH e (by simp) r.reverse ?_, rfl, q⟩
 rw [List.length_reverse]
 omega
noncomputable def rClear : V → List V → Hp → VK → Prop := fun x vs H Q => ∃ l xs, x = .ref l ∧ vs = [] ∧ H l = some (.lst xs) ∧ Q .non (upd H l (.lst []))
theorem mt_clear : MtM X "list.clear" rClear := by
 intro pins s σ H x vs v us Q I rx rv h
 obtain ⟨l, xs, rfl, rfl, hH, q⟩ := h
 cases rx
 have hus := rv.zero
 subst hus
 obtain ⟨z, its, n, r, hl, e⟩ := I.lstM hH
 refine call_meets F.slot_list_clear ⟨_, e, rfl⟩ F.entry_list_clear (F.args_list_clear_1 _) (AutoSeq1.list_clear_list_0 l its.toArray n (by rw [List.size_toArray]; omega)) ⟨e, ?_⟩
 exact ⟨.non, _, I.lset (its' := []) (ys := []) hH e rfl .nil (Nat.zero_le _), rfl, q⟩
end
section
variable {prog : Program} {w : World} {A : Around} {E : Value → Shared → Prop} {s : Shared}
end
section
variable {X : Cx}
end
end L2
namespace L2
open PySem PySem.Spec PyProof.Rows
section
variable {κ : Type} [DecidableEq κ]
end
section
variable {P : Program} {w : World} {H : Hp} {h : Heap} {a : Addr}
end
section
variable {X : Cx} {pins : List (Addr × Obj)} {σ : St} {H : Hp} {s : Shared} {a : Addr} {y v : V} {u r : Value} {o : Option V} {A : Around} {E : Value → Shared → Prop}
end
section
variable {X : Cx} {pins : List (Addr × Obj)} {σ : St} {H : Hp} {s : Shared} {a : Addr} {kvs : List (Key × V)} {k : Key} {u : Value} {A : Around} {E : Value → Shared → Prop}
end
section
variable {X : Cx} {o i e value : Expr} {pos pos' tpos : Pos} {td ty tv : TE}
end
section
variable {X : Cx} {pos : Pos}
end
section
variable {X : Cx} {pins : List (Addr × Obj)} {σ : St} {H : Hp} {s : Shared} {a : Addr} {y d : V} {u r : Value} {o : Option V} {A : Around} {E : Value → Shared → Prop}
end
section
variable {X : Cx} {o e f : Expr} {apos cpos : Pos} {td ty tx : TE}
end
section
variable {X : Cx} {pins : List (Addr × Obj)} {σ : St} {H : Hp} {s : Shared} {a : Addr} {kvs : List (Key × V)} {A : Around} {E : Value → Shared → Prop}
end
section
variable {X : Cx} {pins : List (Addr × Obj)} {σ : St} {H : Hp} {s : Shared} {a : Addr} {y : V} {u : Value} {A : Around} {E : Value → Shared → Prop}
end
end L2
namespace Att
open PySem PySem.W PySem.Calls PyProof.Rows
theorem ints_of_wellAll {P : Params} {h : Heap} : ∀ (ns : List Int) (vs : List Value), WellAll P h vs (ns.map WData.int) → IntsAre vs ns := by
 intro ns
 induction ns with
 | nil =>
  intro vs w
  rw [List.map_nil] at w
  cases w
  exact .nil
 | cons n ns ih =>
  intro vs w
  rw [List.map_cons] at w
  cases w with
  | cons a b =>
   cases a
   exact .cons _ _ (ih _ b)
theorem script_of {l : OpenLaw} {n : Nat} (hn : l.most = some n) {P : Params} {h : Heap} {args : List WData} {vals : List Value}
  (hpre : l.row.toRowW.claim.pre args = true) (hwl : WellAll P h vals args) :
  ∃ a vs ns, vals = [Value.ref a] ∧ args = [WData.list (ns.map WData.int)] ∧ h.get? a = some { cls := .type "list", data := .seq vs.toArray } ∧ IntsAre vs ns ∧ ns.length ≤ n := by
 have hsh : WShape.hasAll [] args [.list .int] = true := (pre_splitW hpre).1
 have hc : l.pre.holds [] { args := args } = true := (pre_splitW hpre).2
 obtain ⟨d, r, rfl, h1, h2⟩ := hasAllW_cons hsh
 obtain rfl := hasAllW_nil h2
 obtain ⟨xs, rfl, h3⟩ := hasW_list h1
 obtain ⟨ns, rfl⟩ := items_int h3
 have hlen : ns.length ≤ n := by
  unfold OpenLaw.pre at hc
  have h4 : (WTm.not (.lt (.lit (.int (n : Int))) (.len (.arg 0)))).holds [] { args := [.list (ns.map .int)] } = true := by
   have h4 := (holds_andW hc).1
   rw [hn] at h4
   exact h4
  have h5 := condW_of h4 (w_not (w_lt w_lit (w_len_list (w_arg rfl))))
  rw [List.length_map] at h5
  refine Nat.le_of_not_lt fun q => ?_
  have q' : (n : Int) < ((ns.length : Nat) : Int) := by omega
  first
   | (rw [decide_eq_true q'] at h5; exact absurd h5 (by decide))
   | (simp at h5; omega)
 cases hwl with
 | cons w1 w2 =>
  cases w2
  cases w1 with
  | list ho hall => exact ⟨_, _, ns, rfl, rfl, ho, ints_of_wellAll ns _ hall, hlen⟩
theorem post_true (l : OpenLaw) (args : List WData) : l.row.toRowW.claim.post args (.bool true) args = true :=
 postW_of (r := l.row.toRowW) (X := (true == true))
  (show WShape.has [] (.bool true) .bool = true by first | rfl | decide | simp [WShape.has, WShape.arms, WShape.armsAll])
  (show (WTm.eq .res (.lit (.bool true))).value [] { args := args, res := some (.bool true), after := args } = some (.bool (true == true)) from w_eq_bool (w_res rfl) w_lit) rfl
theorem attach_call {l : OpenLaw} {n : Nat} {q : Program} {loose : List Str} {XP : (Str → Option Value) → Heap → Prop} {YP : World → Heap → Prop} {d : DefRec}
  (hn : l.most = some n) (hdf : d.params.defaults = [])
  (call : ∀ (w : World) (s₀ s₁ : Shared) (mg mb : Str → Option Value) (fa : Addr) (o : Obj) (pm cd doc : Value) (a : Addr) (vs : List Value) (ns : List Int),
   Ground q loose [] XP w s₀ mg mb s₁.heap → YP w s₁.heap →
   s₁.heap.get? fa = some o → o.data = .func (docDef d.name d.params d.body d.scope pm cd doc) → s₁.heap.CodeRec cd d.name → mg d.name = some (.ref fa) →
   s₁.heap.get? a = some { cls := .type "list", data := .seq vs.toArray } → IntsAre vs ns → ns.length ≤ n → s₁.gens = #[] →
   codeAny (model l.prog w) callerA (.call (.ref fa) ⟨[.ref a], []⟩) (fun r s' => r = .ok (.ret (.bool true)) ∧ OldK s₁.heap s'.heap ∧ s'.os = s₁.os ∧ AllBare s'.gens) s₁) :
  WalkO q loose XP YP l.row.toRowW d [] (fun f vs => PySem.call f vs) := by
 intro w s₀ s₁ mg mb G Y fa o pm cd doc dV kV ho hd hcd hD hmg hg args vals as hpre hlay hrd hwl hlo
 obtain rfl : dV = .none := Dflts.none hD hdf
 obtain rfl : kV = .none := Dflts.noKw hD
 obtain ⟨a, vs, ns, rfl, rfl, hobj, hints, hlen⟩ := script_of hn hpre hwl
 refine enter_call (codeAny_mono (call w s₀ s₁ mg mb fa o pm cd doc a vs ns G Y ho (fd_plain hd) hcd hmg hobj hints hlen hg) fun r s' hq => ?_)
 obtain ⟨rfl, h2, h3, h4⟩ := hq
 exact ⟨.inl ⟨.bool true, .bool true, [], rfl, fun _ => rfl, .bool true, post_true l _, fun _ => ⟨List.Pairwise.nil, fun _ hm => (nomatch hm)⟩⟩, h2, h3, h4⟩
section
variable {prog : Program} {w : World} {A : Around} {E : Value → Shared → Prop} {s : Shared} {K : Frag}
end
end Att
namespace L2
open PySem PySem.Spec PyProof.Rows
theorem vals_ints : ∀ {vs : List Value} {ns : List Int}, IntsAre vs ns → Vals (ns.map V.int) vs
 | _, _, .nil => .nil
 | _, _, .cons n t h => .cons ⟨t, rfl⟩ (vals_ints h)
noncomputable def Only (H : Hp) : Prop := ∀ b, H b = none ∨ ∃ o xs, H b = some (.frz o (.lst xs))
theorem law_call {P : Program} {w : World} {K : PySem.W.Frag} {mg mb : Str → Option Value} {CX : CXT} {k : Nat} {fa a : Addr} {fd : FuncData} {x : Str} {sp : Sp} {s₁ : Shared} {vs : List Value} {ns : List Int}
  (KX : K.In s₁.heap) (hns : s₁.heap.Ns mainGlobals mg) (hb : s₁.heap.Ns builtinsNs mb) (hbb : ∀ x : Str, x ≠ "__name__" → mb x = bootBuiltins x) (hlim : s₁.heap.NoLimit) (hg : s₁.gens = #[])
  (ha : s₁.heap.get? a = some { cls := .type "list", data := .seq vs.toArray }) (hi : IntsAre vs ns) (hl : ns.length ≤ sizeLine) (hr : Room k callerA)
  (F : ∀ base : Heap, K.In base → base.Ns mainGlobals mg → FnOk P w K mg base CX k fa fd [x] sp) (hbind : ∀ (s : Shared) (u : Value), BindsTo s fd ⟨[u], []⟩ [(x, u)])
  (hsp : ∀ H : Hp, Only H → SqL K H a (ns.map V.int) → sp [.ref a] H (fun v _ => v = .bl true) fun _ _ _ => False)
  (hCX : ∀ H e s', CX [] H s₁ (fun _ _ _ => False) e s' → False) :
  codeAny (model P w) callerA (.call (.ref fa) ⟨[.ref a], []⟩) (fun r s' => r = .ok (.ret (.bool true)) ∧ OldK s₁.heap s'.heap ∧ s'.os = s₁.os ∧ AllBare s'.gens) s₁ := by
 have rv := vals_ints hi
 have lenV := hi.length
 have core : ∀ H : Hp, Only H → SqL K H a (ns.map V.int) → HOk P w H s₁.heap → (∀ b, H b ≠ none → b = a) → (H a ≠ none → K.lookup a = none) →
   codeAny (model P w) callerA (.call (.ref fa) ⟨[.ref a], []⟩) (fun r s' => r = .ok (.ret (.bool true)) ∧ OldK s₁.heap s'.heap ∧ s'.os = s₁.os ∧ AllBare s'.gens) s₁ := by
  intro H hO hS hok hA hK
  have base_of : ∀ {b : Addr} {o : Obj}, s₁.heap.get? b = some o → H b = none → (hidT s₁.heap H).get? b = some o := fun e n => hidT_get e n
  have noA : ∀ {b : Addr} {o : Obj} {es : Array DictEntry} {ep : Nat}, s₁.heap.get? b = some o → o.data = .dict es ep → H b = none := fun {b o es ep} e d => by
   cases q : H b with
   | none => rfl
   | some u =>
    have e' : b = a := hA b (by rw [q]; simp)
    subst e'
    rw [ha] at e; cases e
    have d' : Data.seq vs.toArray _ = Data.dict es ep := d
    cases d'
  have nsK : ∀ {b : Addr} {m : Str → Option Value}, s₁.heap.Ns b m → (hidT s₁.heap H).Ns b m := fun {b m} ⟨o, es, ep, e, d, r⟩ => ⟨o, es, ep, base_of e (noA e d), d, r⟩
  have hKb : K.In (hidT s₁.heap H) := fun b o e => base_of (KX b o e) (by
   cases q : H b with
   | none => rfl
   | some u =>
    have e' : b = a := hA b (by rw [q]; simp)
    subst e'
    rw [hK (by rw [q]; simp)] at e; cases e)
  have hM : Mod K mg (hidT s₁.heap H) := ⟨hKb, nsK hns, ⟨mb, nsK hb, hbb⟩, let ⟨mc, h1, h2⟩ := hlim; ⟨mc, nsK h1, h2⟩⟩
  have e0 : Env0 P w K mg (hidT s₁.heap H) callerA [] s₁ H := ⟨rfl, hM, fun b o e => of_hidT e, Nat.le_of_eq (hidT_size _ _), trivial, fun b hb => absurd (show b ∈ ([] : List Addr) from hb) (by simp), hok, .of_eq hg⟩
  refine codeAny_mono ((F _ hKb (nsK hns)).run callerA [] s₁ H ⟨[.ref a], []⟩ [.ref a] [.ref a] _ _ hr e0 (hbind s₁ (.ref a)) (.cons rfl .nil) (hsp H hO hS)) fun r s' h => ?_
  cases r with
  | error e => exact (hCX H e s' h).elim
  | ok fl =>
   cases fl with
   | next => exact False.elim h
   | brk => exact False.elim h
   | cont => exact False.elim h
   | ret u =>
    obtain ⟨v, H', os, bare, un, hok', r', q⟩ := h
    have q' : v = .bl true := q
    subst q'
    obtain rfl : u = Value.bool true := r'
    refine ⟨rfl, OldK.of_keep fun b o e => ?_, os, bare⟩
    cases q : H b with
    | none => exact un.keep b o e q (by intro z; exact absurd (show b ∈ ([] : List Addr) from z) (by simp)) (by simp)
    | some u =>
     rcases hO b with z | ⟨ob, xs, z⟩
     ·rw [q] at z; cases z
     ·have z2 := un.frzs b ob _ z
      obtain ⟨e1, _⟩ := hok b _ z
      obtain ⟨e2, _⟩ := hok' b _ z2
      rw [e] at e1; cases e1
      exact e2
 cases hk : K.lookup a with
 | some o =>
  have e := KX a o hk
  rw [ha] at e
  cases e
  refine core (fun _ => none) (fun _ => .inl rfl) (.inr ⟨_, vs.toArray, _, hk, rfl, rfl, rfl, by rw [List.size_toArray, lenV]; exact hl, by simpa using rv⟩) (fun b u z => by have z' : (none : Option HO) = some u := z; cases z') (fun b z => absurd rfl z) fun z => absurd rfl z
 | none =>
  refine core (fun b => if b = a then some (.frz { cls := .type "list", data := .seq vs.toArray } (.lst (ns.map V.int))) else none) (fun b => ?_) (.inl (.inr ⟨{ cls := .type "list", data := .seq vs.toArray }, if_pos rfl⟩)) (fun b u z => ?_) (fun b z => ?_) fun _ => hk
  ·by_cases hb : b = a
   ·exact .inr ⟨_, _, if_pos hb⟩
   ·exact .inl (if_neg hb)
  ·by_cases hb : b = a
   ·have z' := (if_pos hb).symm.trans z
    cases z'
    subst hb
    exact ⟨ha, by rw [List.length_map]; exact hl, vs, _, rv, ha⟩
   ·have z' := (if_neg hb).symm.trans z
    cases z'
  ·by_cases hb : b = a
   ·exact hb
   ·exact absurd (if_neg hb) z
end L2
namespace L2
open PySem PySem.Spec PyProof.Rows
theorem walk_of {l : PySem.W.OpenLaw} {n k : Nat} {q : Program} {loose : List Str} {XP : (Str → Option Value) → Heap → Prop} {YP : World → Heap → Prop} {d : DefRec} {K : Params → PySem.W.Frag} {CX : World → CXT} {sp : World → Sp} {x : Str}
  (hn : l.most = some n) (hn2 : n ≤ sizeLine) (hdf : d.params.defaults = []) (hr : Room k callerA)
  (hY : ∀ (w : World) (h : Heap), YP w h → (K w.params).In h)
  (F : ∀ (w : World) (mg : Str → Option Value) (fa : Addr) (h : Heap), (K w.params).In h → h.Ns mainGlobals mg → mg d.name = some (.ref fa) →
   ∃ fd : FuncData, (∀ (s : Shared) (u : Value), BindsTo s fd ⟨[u], []⟩ [(x, u)]) ∧
    ∀ base : Heap, (K w.params).In base → base.Ns mainGlobals mg → FnOk l.prog w (K w.params) mg base (CX w) k fa fd [x] (sp w))
  (hsp : ∀ (w : World) (H : Hp) (a : Addr) (ns : List Int), ns.length ≤ n → Only H → SqL (K w.params) H a (ns.map V.int) → sp w [.ref a] H (fun v _ => v = .bl true) fun _ _ _ => False)
  (hCX : ∀ (w : World) (H : Hp) (s : Shared) (e : Value) (s' : Shared), CX w [] H s (fun _ _ _ => False) e s' → False) :
  PySem.W.WalkO q loose XP YP l.row.toRowW d [] (fun f vs => PySem.call f vs) := by
 refine Att.attach_call hn hdf fun w s₀ s₁ mg mb fa o pm cd doc a vs ns G Y ho hd hcd hmg hobj hints hlen hg => ?_
 have KX := hY w _ Y
 obtain ⟨fd, hb, hF⟩ := F w mg fa _ KX G.T.g hmg
 exact law_call KX G.T.g G.T.b G.T.builtins G.T.nolimit hg hobj hints (Nat.le_trans hlen hn2) hr hF hb (fun H hO hS => hsp w H a ns hlen hO hS) fun H e s' => hCX w H s₁ e s'
end L2
namespace L2
open PySem PySem.Spec PyProof.Rows
noncomputable def inClass (s : Stmt) (j : Nat) : Stmt := match s with
 | .ClassDef _ _ _ body _ _ _ _ _ _ _ => body.getD j (.Pass ⟨0, 0, 0, 0⟩)
 | _ => .Pass ⟨0, 0, 0, 0⟩
noncomputable def defArgs (s : Stmt) : Arguments := match s with
 | .FunctionDef _ a _ _ _ _ _ _ _ _ => a
 | _ => { posonlyargs := [], args := [], vararg := none, kwonlyargs := [], kw_defaults := [], kwarg := none, defaults := [] }
noncomputable def defBody (s : Stmt) : List Stmt := match s with
 | .FunctionDef _ _ b _ _ _ _ _ _ _ => b
 | _ => []
noncomputable def defScope (s : Stmt) : Scope := match s with
 | .FunctionDef _ _ _ _ _ _ sc _ _ _ => sc
 | _ => { kind := .function, names := [], isGenerator := false, isCoroutine := false }
abbrev CX0 : CXT := fun _ _ _ _ _ _ => False
abbrev E0 : XK := fun _ _ _ => False
theorem pass0 {X : Cx} : Passes CX0 X E0 := fun _ _ _ _ _ _ _ h => h.elim
structure Fun (K : PySem.W.Frag) (x qual : Str) (st : Stmt) (f : Addr) (fd : FuncData) : Prop where
 ex : ∃ (oc : Value) (od : Option Addr) (kV doc pm : Value) (an : Option Addr) (cdv ct : Value) (osl : Array (Option Value)),
  fd = PySem.W.fnOf x qual (defArgs st) (defBody st) (defScope st) .none kV doc pm an cdv ct ∧ K.lookup f = some ⟨oc, od, .func fd, osl⟩ ∧ PySem.W.codeIn K cdv qual = true
 kp : PySem.W.keepIn K (.ref f) = true
section
variable {P : Program} {w : World} {K : PySem.W.Frag} {mg : Str → Option Value} {base : Heap}
theorem Fun.ok {x qual : Str} {st : Stmt} {f : Addr} {fd : FuncData} {N ps : List Str} {k : Nat} {sp : Sp} (F : Fun K x qual st f fd) (S : FnScope N ps (defScope st)) (len : ∀ vs H Q E, sp vs H Q E → vs.length = ps.length)
  (hbody : ∀ (cdv : Value) (A : Around) (outer : List Env) (s : Shared) (H : Hp) (vs : List V) (Q : VK) (E : XK), Room k (A.deeper (envOfC qual (defScope st) s.heap.objs.size f cdv)) → sp vs H Q E →
   ∃ t, PSs (cxOf CX0 P w K mg base N qual (defScope st) f cdv A outer s H E).nox (defBody st) t ∧ t { nx := fun _ H' => Q .non H', rt := Q } (start N vs) H) : FnOk P w K mg base CX0 (k + 1) f fd ps sp := by
 obtain ⟨oc, od, kV, doc, pm, an, cdv, ct, osl, rfl, lk, hcd⟩ := F.ex
 refine fn_of lk hcd S len fun A outer s H vs Q E hr hsp => ?_
 obtain ⟨t, h, q⟩ := hbody cdv A outer s H vs Q E hr hsp
 exact ⟨t, h.nox, q⟩
theorem Fun.binds {x qual : Str} {st : Stmt} {f : Addr} {fd : FuncData} {ps : List Str} (F : Fun K x qual st f fd)
  (h : ∀ (kV doc pm : Value) (an : Option Addr) (cdv ct : Value) (us : List Value), us.length = ps.length → bindArgs (PySem.W.fnOf x qual (defArgs st) (defBody st) (defScope st) .none kV doc pm an cdv ct) ⟨us, []⟩ = pure (ps.zip us)) : Binds K fd ps [] := by
 obtain ⟨oc, od, kV, doc, pm, an, cdv, ct, osl, rfl, lk, hcd⟩ := F.ex
 exact .all (h kV doc pm an cdv ct)
theorem fun_mk {x qual : Str} {st : Stmt} {f : Addr} {oc : Value} {od an : Option Addr} {osl : Array (Option Value)} {kV doc pm cdv ct : Value} (l : K.lookup f = some ⟨oc, od, .func (PySem.W.fnOf x qual (defArgs st) (defBody st) (defScope st) .none kV doc pm an cdv ct), osl⟩)
  (c : PySem.W.codeIn K cdv qual = true) (k : PySem.W.keepIn K (.ref f) = true) : Fun K x qual st f (PySem.W.fnOf x qual (defArgs st) (defBody st) (defScope st) .none kV doc pm an cdv ct) := ⟨⟨oc, od, kV, doc, pm, an, cdv, ct, osl, rfl, l, c⟩, k⟩
end
section
variable {X : Cx}
end
section
variable {κ : Type} [DecidableEq κ]
end
end L2
end
section
set_option Elab.async false
set_option linter.all false
set_option maxRecDepth 100000
namespace L2
open PySem PySem.Spec PyProof.Rows
section
variable {prog : Program} {w : World} {A : Around} {R : Result → Shared → Prop} {s : Shared}
end
noncomputable def clr : List Nat → St → St
 | [], σ => σ
 | j :: r, σ => clr r (σ.set j none)
theorem clr_len : ∀ (js : List Nat) (σ : St), (clr js σ).length = σ.length
 | [], _ => rfl
 | j :: r, σ => by rw [clr, clr_len r, List.length_set]
theorem clr_some : ∀ {js : List Nat} {σ : St} {i : Nat} {v : V}, (clr js σ)[i]? = some (some v) → σ[i]? = some (some v) ∧ i ∉ js
 | [], _, _, _, h => ⟨h, by simp⟩
 | j :: r, σ, i, v, h => by
  obtain ⟨h1, h2⟩ := clr_some (js := r) h
  by_cases e : j = i
  ·subst e
   rw [List.getElem?_set] at h1
   rw [if_pos rfl] at h1
   split at h1 <;> cases h1
  ·rw [List.getElem?_set_ne e] at h1
   exact ⟨h1, fun hm => (List.mem_cons.mp hm).elim (fun q => e q.symm) h2⟩
noncomputable def closL (env : Env) : List (Str × NameKind) → List (Str × Addr) → List (Str × Addr)
 | [], acc => acc
 | (n, k) :: r, acc => closL env r (if k == .free then (match env.cells.lookup n with | some c => (n, c) :: acc | none => acc) else acc)
theorem closureFor_go {env : Env} : ∀ (names : List (Str × NameKind)) (acc : List (Str × Addr)), (∀ y ∈ names, y.2 = .free → ∃ c, env.cells.lookup y.1 = some c) →
  (forIn (m := Sem) names acc fun x r => match x with | (name, kind) => if (kind == NameKind.free) = true then do let a ← cellOf env name; pure (ForInStep.yield ((name, a) :: r)) else pure (ForInStep.yield r)) = pure (closL env names acc)
 | [], acc, _ => rfl
 | (n, k) :: r, acc, h => by
  rw [List.forIn_cons]
  have hr := fun acc => closureFor_go r acc fun y hy => h y (List.mem_cons_of_mem _ hy)
  by_cases hk : k = .free
  ·subst hk
   obtain ⟨c, e⟩ := h (n, .free) List.mem_cons_self rfl
   have e : env.cells.lookup n = some c := e
   simp only [beq_self_eq_true, if_true, cellOf, e, pure_bind, closL]
   exact hr _
  ·have hb : (k == NameKind.free) = false := by simpa using hk
   simp only [hb, Bool.false_eq_true, if_false, pure_bind, closL]
   exact hr _
theorem closureFor_eq {scope : Scope} {env : Env} (h : ∀ y ∈ scope.names, y.2 = .free → ∃ c, env.cells.lookup y.1 = some c) : closureFor scope env = pure (closL env scope.names []) := by
 have q := closureFor_go (env := env) scope.names [] h
 simp only [closureFor]
 first
  | (rw [q]; rfl)
  | (simp only [pure_bind, bind_pure_comp, map_pure] at q ⊢; rw [q]; rfl)
  | exact (congrArg (· >>= pure) q)
  | trace_state
theorem closL_sub {env : Env} {x : Str} {c : Addr} : ∀ (names : List (Str × NameKind)) (acc : List (Str × Addr)), (∀ c, acc.lookup x = some c → env.cells.lookup x = some c) → (closL env names acc).lookup x = some c → env.cells.lookup x = some c
 | [], acc, h, e => h _ e
 | (n, k) :: r, acc, h, e => by
  refine closL_sub r _ ?_ e
  intro c' e'
  split at e'
  ·split at e'
   ·rename_i c2 e2
    by_cases hx : x = n
    ·subst hx
     simp only [List.lookup_cons, beq_self_eq_true] at e'
     cases e'
     exact e2
    ·have hb : (x == n) = false := by simpa using hx
     simp only [List.lookup_cons, hb] at e'
     exact h _ e'
   ·exact h _ e'
  ·exact h _ e'
theorem closL_acc {env : Env} {x : Str} : ∀ (names : List (Str × NameKind)) (acc : List (Str × Addr)), (∃ c, acc.lookup x = some c) → ∃ c, (closL env names acc).lookup x = some c
 | [], acc, h => h
 | (n, k) :: r, acc, h => by
  refine closL_acc r _ ?_
  split
  ·split
   ·rename_i c2 e2
    by_cases hx : x = n
    ·subst hx
     exact ⟨c2, by simp [List.lookup_cons]⟩
    ·have hb : (x == n) = false := by simpa using hx
     obtain ⟨c, e⟩ := h
     exact ⟨c, by simp only [List.lookup_cons, hb]; exact e⟩
   ·exact h
  ·exact h
theorem closL_has {env : Env} {x : Str} : ∀ (names : List (Str × NameKind)) (acc : List (Str × Addr)), (x, NameKind.free) ∈ names → (∃ c, env.cells.lookup x = some c) → ∃ c, (closL env names acc).lookup x = some c
 | (n, k) :: r, acc, hm, ⟨c, e⟩ => by
  rcases List.mem_cons.mp hm with q | q
  ·cases q
   refine closL_acc r _ ⟨c, ?_⟩
   simp only [beq_self_eq_true, if_true, e, List.lookup_cons]
  ·exact closL_has r _ q ⟨c, e⟩
structure CompOk (N : List Str) (js : List Nat) (scope osc : Scope) : Prop where
 kind : scope.kind = .function
 nocell : ∀ y ∈ scope.names, y.2 ≠ .cell
 loc : ∀ y ∈ scope.names, y.2 = .local → scope.names.lookup y.1 = some .local
 own : ∀ p ∈ N.zipIdx, scope.names.lookup p.1 = some .local → p.2 ∈ js
 free : ∀ y ∈ scope.names, y.2 = .free → osc.names.lookup y.1 = some .cell ∨ osc.names.lookup y.1 = some .free
theorem lookup_relabel {env : Env} : ∀ {names : List (Str × NameKind)} {x : Str} {k' : NameKind},
  (names.map fun (n, k) => if (k == NameKind.free && env.scope.kind == .function && env.kindOf n == some .cell) then (n, NameKind.cell) else (n, k)).lookup x = some k' →
  ∃ k, names.lookup x = some k ∧ (k' = k ∨ (k = .free ∧ k' = .cell))
 | [], _, _, h => by simp at h
 | (n, k) :: r, x, k', h => by
  have ih := @lookup_relabel env r x k'
  have h : List.lookup x ((if (k == NameKind.free && env.scope.kind == .function && env.kindOf n == some .cell) = true then (n, NameKind.cell) else (n, k)) :: (r.map fun (n, k) => if (k == NameKind.free && env.scope.kind == .function && env.kindOf n == some .cell) then (n, NameKind.cell) else (n, k))) = some k' := h
  by_cases hc : (k == NameKind.free && env.scope.kind == .function && env.kindOf n == some .cell) = true
  ·rw [if_pos hc] at h
   have hk : k = .free := by
    simp only [Bool.and_eq_true] at hc
    simpa using hc.1.1
   cases hx : x == n with
   | true =>
    simp only [List.lookup_cons, hx] at h
    cases h
    exact ⟨k, by simp [List.lookup_cons, hx], .inr ⟨hk, rfl⟩⟩
   | false =>
    simp only [List.lookup_cons, hx] at h
    obtain ⟨k2, e, r2⟩ := ih h
    exact ⟨k2, by simp only [List.lookup_cons, hx]; exact e, r2⟩
  ·rw [if_neg hc] at h
   cases hx : x == n with
   | true =>
    simp only [List.lookup_cons, hx] at h
    cases h
    exact ⟨k, by simp [List.lookup_cons, hx], .inl rfl⟩
   | false =>
    simp only [List.lookup_cons, hx] at h
    obtain ⟨k2, e, r2⟩ := ih h
    exact ⟨k2, by simp only [List.lookup_cons, hx]; exact e, r2⟩
abbrev Cx.comp (X : Cx) (scope : Scope) (cl : List (Str × Addr)) (s₀ : Shared) (H₀ : Hp) (fp : List Addr) (pins : List (Addr × Obj)) : Cx :=
 { X with s₀ := s₀, H₀ := H₀, env := compEnvC scope cl s₀.heap.objs.size X.env, outer := X.stack, stack := X.stack, ex := fp, fn := fun _ => false, pn := X.pn ++ pins, xe := fun _ _ => False }
section
variable {X : Cx} {pins : List (Addr × Obj)} {σ : St} {H : Hp} {s : Shared} {scope : Scope} {js : List Nat} {fp : List Addr}
theorem comp_kinds (ok : CompOk X.N js scope X.env.scope) {x : Str} (hx : (relabel scope X.env).names.lookup x = some .cell ∨ (relabel scope X.env).names.lookup x = some .free) :
  scope.names.lookup x = some .free ∧ (x, NameKind.free) ∈ scope.names ∧ (X.env.kindOf x = some .cell ∨ X.env.kindOf x = some .free) := by
 have k : ∃ k', (relabel scope X.env).names.lookup x = some k' ∧ (k' = .cell ∨ k' = .free) := by
  rcases hx with h | h
  ·exact ⟨_, h, .inl rfl⟩
  ·exact ⟨_, h, .inr rfl⟩
 obtain ⟨k', h, hk⟩ := k
 obtain ⟨k, e, r⟩ := lookup_relabel h
 have hf : k = .free := by
  rcases r with r | r
  ·subst r
   rcases hk with z | z
   ·exact absurd z (ok.nocell _ (PySem.mem_of_lookup e))
   ·exact z
  ·exact r.1
 subst hf
 exact ⟨e, PySem.mem_of_lookup e, ok.free _ (PySem.mem_of_lookup e) rfl⟩
theorem Inv.comp (I : Inv X pins σ H s) (ok : CompOk X.N js scope X.env.scope) (hf : ∀ b ∈ fp, FpOk X pins H b) {h₁ : Heap} {m₁ : Str → Option Value} {tk : Nat}
  (hfs : ∀ b ∈ fp, b < s.heap.objs.size) (hn : h₁.Ns s.heap.objs.size m₁) (hk : ∀ b o, s.heap.get? b = some o → h₁.get? b = some o) (hm : ∀ x, m₁ x = none) :
  Inv (X.comp scope (closL X.env scope.names []) s H fp pins) [] (clr js σ) H { s with heap := h₁, toks := tk } := by
 have has : ∀ x, (x, NameKind.free) ∈ scope.names → ∃ c, X.env.cells.lookup x = some c := fun x hx => I.ok.has x (ok.free _ hx rfl)
 have sub : ∀ x c, (closL X.env scope.names []).lookup x = some c → X.env.cells.lookup x = some c := fun x c e => closL_sub _ _ (by simp) e
 have stk := I.stkSub
 have hlt := I.lt
 refine ⟨⟨I.mod, ok.kind, I.ok.glob, I.ok.blt, Nat.le_refl _, fun x y c e1 e2 => I.ok.inj x y c (sub _ _ e1) (sub _ _ e2), fun x hx => ?_, fun x c z => absurd z (by simp), I.ok.hd, I.ok.frames, .inl rfl, fun b hb => ⟨Nat.ne_of_lt (hfs b hb), fun x c e => (hf b hb).2.2.2.2.1 x c (sub _ _ e)⟩,
  fun b o e => I.bs b o e, Nat.le_trans I.ok.bsz I.sz, fun b o e hb => ?_, fun b hb z => ?_, I.stack, fun b hb => I.stkFree b hb⟩, rfl, I.bare, Un.kept hk, ⟨m₁, hn, fun i x v e1 e2 e3 => ?_⟩, fun x c e => ?_, I.hok.fresh (Nat.le_refl _), fun x c e => I.freeC x c (sub _ _ e), fun p hp => ?_, I.hok.kept hk, ?_⟩
 ·obtain ⟨h1, h2, h3⟩ := comp_kinds ok hx
  exact closL_has _ _ h2 (has x h2)
 ·have q := (hf b hb).2.2.2.1
  rcases q with q | q
  ·exact I.ok.noex b o e q
  ·exact absurd (Heap.lt_size e) (Nat.not_lt.mpr (Nat.le_trans I.ok.bsz q))
 ·rcases List.mem_cons.mp (stk b z) with q | q
  ·exact (hf b hb).2.1 q
  ·exact (hf b hb).2.2.1 q
 ·obtain ⟨c1, c2⟩ := clr_some e2
  have e3 : (relabel scope X.env).names.lookup x = some .local ∨ (relabel scope X.env).names.lookup x = some .cell ∨ (relabel scope X.env).names.lookup x = some .free := e3
  rcases e3 with e3 | e3
  ·obtain ⟨k, ek, r⟩ := lookup_relabel e3
   have : k = .local := by
    rcases r with r | ⟨_, r⟩
    ·exact r.symm
    ·cases r
   subst this
   exact absurd (ok.own (x, i) (by rw [List.mem_zipIdx_iff_getElem?]; exact e1) ek) c2
  ·obtain ⟨h1, h2, h3⟩ := comp_kinds ok e3
   obtain ⟨m, hm0, hl⟩ := I.loc
   obtain ⟨u, ru, lu⟩ := hl i x v e1 c1 (.inr h3)
   refine ⟨u, ru, .inr ⟨e3, ?_⟩⟩
   rcases lu with ⟨q, _⟩ | ⟨_, c, q1, q2⟩
   ·rcases h3 with z | z <;> (rw [z] at q; cases q)
   ·obtain ⟨c', ec⟩ := closL_has _ [] h2 (has x h2)
    have := sub _ _ ec
    rw [q1] at this
    cases this
    exact ⟨c, ec, q2.keeps hk⟩
 ·obtain ⟨v, q⟩ := I.cell x c (sub _ _ e)
  exact ⟨v, q.keeps hk⟩
 ·rw [List.append_nil] at hp
  obtain ⟨h1, h2, h3, h4, h5⟩ := I.pin p hp
  refine ⟨hk _ _ h1, h2, Nat.ne_of_lt (Heap.lt_size h1), fun z => ?_, h5⟩
  rcases List.mem_cons.mp (stk _ z) with q | q
  ·exact h3 q
  ·exact h4 q
 ·rw [clr_len]; exact I.len
theorem HOk.off {P : Program} {w : World} {H : Hp} {h h' : Heap} {C : Addr} (x : HOk P w H h) (hn : H C = none) (k : ∀ b o, b ≠ C → h.get? b = some o → h'.get? b = some o) : HOk P w H h' := fun a o e =>
 (x a o e).stay (fun b u hb q => k b u (by
  rintro rfl
  rcases hb with z | z
  ·rw [z, e] at hn; cases hn
  ·rw [z] at hn; cases hn) q) (fun _ q => q) fun _ _ q => q
theorem Inv.uncomp (I : Inv X pins σ H s) {σ' : St} {H' : Hp} {s' : Shared} {cl : List (Str × Addr)} (hf : ∀ b ∈ fp, FpOk X pins H b) (J : Inv (X.comp scope cl s H fp pins) [] σ' H' s') {h' : Heap}
  (hk : ∀ b o, b ≠ s.heap.objs.size → s'.heap.get? b = some o → h'.get? b = some o) : Inv X pins σ H' { s' with heap := h' } := by
 have nC : H' s.heap.objs.size = none := J.free
 have nb : ∀ b o, s.heap.get? b = some o → b ≠ s.heap.objs.size := fun b o e => Nat.ne_of_lt (Heap.lt_size e)
 have u := J.base
 refine I.call' (ch := fp) J.os ⟨fun b o e n h1 h2 => hk b o (nb b o e) (u.keep b o e n h1 h2), fun b o e n h1 h2 => ?_, u.free, fun b o e h2 => ?_, u.tups, u.frzs, u.tbls⟩ (J.hok.off nC hk) J.bare fun b hb => ⟨(hf b hb).2.2.2.1, (hf b hb).2.1, (hf b hb).2.2.2.2.1, (hf b hb).2.2.2.2.2⟩
 ·obtain ⟨sl, q⟩ := u.slot b o e n h1 h2
  exact ⟨sl, hk _ _ (nb b o e) q⟩
 ·obtain ⟨o', q⟩ := u.there b o e h2
  exact ⟨o', hk _ _ (nb b o e) q⟩
end
noncomputable def PIfs (X : Cx) (ifs : List Expr) (t : TT) : Prop :=
 ∀ (pins : List (Addr × Obj)) (s : Shared) (σ : St) (H : Hp) (Q : Bool → Hp → Prop), Inv X pins σ H s → t σ H Q →
  wpAny (model X.prog X.w) X.A (forIn ifs true fun c r => if r = true then do let ok ← isTrue c X.env (eval c X.env); pure (ForInStep.yield ok) else pure (ForInStep.yield r)) (TP X pins σ Q) X.xe s
noncomputable def tYes : TT := fun _ H Q => Q true H
theorem pifs_nil {X : Cx} : PIfs X [] tYes := fun pins s σ H Q I h => wpAny_tests_nil ⟨H, I, h⟩
theorem pifs_one {X : Cx} {c : Expr} {t : TT} (h : PT X c t) : PIfs X [c] t := fun pins s σ H Q I q => wpAny_tests_one (h pins s σ H Q I q)
section
variable {X : Cx} {tg iter elt : Expr} {ifs : List Expr} {scope : Scope} {pos : Pos} {js : List Nat} {wi : TI} {g : TG} {tc : TT} {te : TE}
end
end L2
end
section
set_option Elab.async false
set_option linter.all false
set_option maxRecDepth 100000
namespace L2
open PySem PySem.Spec PyProof.Rows
mutual
inductive Dt (K : PySem.W.Frag) (H : Hp) : V → PyData → Prop
 | non : Dt K H .non .none
 | bl (b) : Dt K H (.bl b) (.bool b)
 | int (i) : Dt K H (.int i) (.int i)
 | str (x) : Dt K H (.str x) (.str x)
 | lst {a xs ds} : SqL K H a xs → Dts K H xs ds → Dt K H (.ref a) (.list ds)
 | tup {a xs ds} : SqT K H a xs → Dts K H xs ds → Dt K H (.ref a) (.tuple ds)
inductive Dts (K : PySem.W.Frag) (H : Hp) : List V → List PyData → Prop
 | nil : Dts K H [] []
 | cons {x xs d ds} : Dt K H x d → Dts K H xs ds → Dts K H (x :: xs) (d :: ds)
end
section
variable {X : Cx} {pins : List (Addr × Obj)} {σ : St} {H : Hp} {s : Shared}
mutual
theorem Inv.reads (I : Inv X pins σ H s) : ∀ {v : V} {d : PyData} {u : Value}, Dt X.K H v d → RelV v u → ∃ as, Reads s.heap u d as
 | _, _, _, .non, r => by cases r; exact ⟨_, .none⟩
 | _, _, _, .bl b, r => by cases r; exact ⟨_, .bool b⟩
 | _, _, _, .int i, r => by obtain ⟨t, rfl⟩ := r; exact ⟨_, .int i t⟩
 | _, _, _, .str x, r => by obtain ⟨t, rfl⟩ := r; exact ⟨_, .str x t⟩
 | _, _, _, .lst h t, r => by
  cases r
  obtain ⟨its, rv, p, hz⟩ := I.list h
  obtain ⟨o, ho, hc, n, hd⟩ := p.isList
  obtain ⟨as, ra⟩ := I.readsAll t rv
  exact ⟨_, .list ho hc hd (by simpa using ra)⟩
 | _, _, _, .tup h t, r => by
  cases r
  obtain ⟨its, rv, p, hz⟩ := I.tuple h
  obtain ⟨o, ho, hc, n, hd⟩ := p
  obtain ⟨as, ra⟩ := I.readsAll t rv
  exact ⟨_, .tuple ho hc hd (by simpa using ra)⟩
theorem Inv.readsAll (I : Inv X pins σ H s) : ∀ {v : List V} {d : List PyData} {u : List Value}, Dts X.K H v d → Vals v u → ∃ as, ReadsAll s.heap u d as
 | _, _, _, .nil, .nil => ⟨_, .nil⟩
 | _, _, _, .cons h t, .cons r rs => by
  obtain ⟨as, a⟩ := I.reads h r
  obtain ⟨bs, b⟩ := I.readsAll t rs
  exact ⟨_, .cons a b⟩
end
noncomputable def rEqD (K : PySem.W.Frag) : R2 := fun x y H Q => ∃ d e, Dt K H x d ∧ Dt K H y e ∧ d.canLay0 = true ∧ e.canLay0 = true ∧ d.depth ≤ 60 ∧ Q (.bl (PyData.eqv d e)) H
noncomputable def rNeD (K : PySem.W.Frag) : R2 := fun x y H Q => ∃ d e, Dt K H x d ∧ Dt K H y e ∧ d.canLay0 = true ∧ e.canLay0 = true ∧ d.depth ≤ 60 ∧ Q (.bl (!PyData.eqv d e)) H
theorem op_eqD (hu : X.A.units + 64 < cLine) : OpR X (compareOp .Eq) (rEqD X.K) := by
 intro pins s σ H x y v u Q I rx ry h
 obtain ⟨d, e, h1, h2, h3, h4, h5, q⟩ := h
 obtain ⟨as, ra⟩ := I.reads h1 rx
 obtain ⟨bs, rb⟩ := I.reads h2 ry
 exact PySem.SeqAt.compareEq_reads ra rb h3 h4 (by have : min d.depth e.depth ≤ d.depth := Nat.min_le_left _ _; omega) ⟨.bl _, H, I, rfl, q⟩
theorem op_neD (hu : X.A.units + 64 < cLine) : OpR X (compareOp .NotEq) (rNeD X.K) := by
 intro pins s σ H x y v u Q I rx ry h
 obtain ⟨d, e, h1, h2, h3, h4, h5, q⟩ := h
 obtain ⟨as, ra⟩ := I.reads h1 rx
 obtain ⟨bs, rb⟩ := I.reads h2 ry
 exact PySem.SeqAt.compareNe_reads ra rb h3 h4 (by have : min d.depth e.depth ≤ d.depth := Nat.min_le_left _ _; omega) ⟨.bl _, H, I, rfl, q⟩
end
end L2
end
section
set_option Elab.async false
set_option linter.all false
set_option maxRecDepth 100000
namespace L2
open PySem PySem.Spec PyProof.Rows
section
variable {X : Cx}
theorem all_getD (bs : List Bool) : ((List.range bs.length).all fun i => bs.getD i true) = bs.all id := by
 induction bs with
 | nil => rfl
 | cons b r ih =>
  rw [List.length_cons, List.range_succ_eq_map, List.all_cons, List.all_map, List.all_cons]
  show (b && _) = (b && _)
  rw [← ih]
  rfl
theorem call_all (hh : X.A.handled = none) : CallR X (.builtin "all") (fun xs H Q => ∃ (p : Addr) (bs : List Bool), xs = [.ref p] ∧ SqL X.K H p (bs.map V.bl) ∧ Q (.bl (bs.all id)) H) := by
 intro pins s σ H xs us Q I r h
 obtain ⟨p, bs, rfl, hq, q⟩ := h
 obtain ⟨u, rfl, rx⟩ := vals1 r
 cases rx
 obtain ⟨its, rv, pl, hz⟩ := I.list hq
 have hl := pl.isList
 have hlt : p < s.heap.objs.size := by obtain ⟨_, e, _⟩ := hl; exact Heap.lt_size e
 have len := rv.length
 rw [List.length_map] at len
 refine call_all_walk (wpAny_pyIter_list hl ?_)
 refine ⟨_, _, _, _, _, _, (fun i => bs.getD i true), rfl, Walks.list (A := X.A.in1) hh s.heap.objs.size p (Nat.ne_of_lt hlt) its.toArray, ⟨⟨_, Heap.get?_push_size _ rfl, rfl, rfl⟩, hl.push _⟩, ?_, ?_⟩
 ·intro i v s' Q' E' hv hq'
  have hv : its[i]? = some v := by simpa using hv
  have hi : i < its.length := (List.getElem?_eq_some_iff.mp hv).1
  have hb : i < bs.length := by omega
  have e : (bs.map V.bl)[i]? = some (V.bl (bs[i])) := by simp [hb]
  obtain ⟨u, hu, ru⟩ := rv.get e
  rw [hv] at hu
  cases hu
  cases ru
  have : bs.getD i true = bs[i] := by simp [hb]
  dsimp only at hq'
  rw [this] at hq'
  exact wpAny_truthy_bool hq'
 ·intro h' tk hk
  have e : ((List.range its.toArray.size).all fun i => bs.getD i true) = bs.all id := by
   rw [List.size_toArray, ← len]
   exact all_getD bs
  rw [e]
  refine ⟨.bl _, H, I.kept (t' := tk) fun b o eb => hk b o (fun z => ?_) (Heap.get?_push_of_some _ eb), rfl, q⟩
  rw [List.mem_singleton] at z
  exact Nat.ne_of_lt (Heap.lt_size eb) z
theorem strsAre_of {ns : List Str} : ∀ {us : List Value}, Vals (ns.map V.str) us → StrsAre us ns := by
 induction ns with
 | nil => intro us r; cases r; exact .nil
 | cons n r ih => intro us rv; cases rv with | cons q t => obtain ⟨k, rfl⟩ := q; exact .cons _ _ (ih t)
noncomputable def rJoin (K : PySem.W.Frag) : V → List V → Hp → VK → Prop := fun x vs H Q => ∃ z l ys, x = .str z ∧ vs = [.ref l] ∧ SqL K H l (ys.map V.str) ∧ (ys.map (·.length)).sum + ys.length * z.length ≤ 16777216 ∧ Q (.str (Txt.join z ys)) H
theorem mt_join : MtM X "str.join" (rJoin X.K) := by
 intro pins s σ H x vs v us Q I rx rv h
 obtain ⟨z, l, ys, rfl, rfl, hq, hz, q⟩ := h
 obtain ⟨t, rfl⟩ := rx
 obtain ⟨u, rfl, ru⟩ := rv.one
 cases ru
 obtain ⟨its, r, pl, hl⟩ := I.list hq
 exact join_list pl.isList (by simpa using strsAre_of r) hz fun t' k => ⟨.str _, H, I.tok _, ⟨_, rfl⟩, q⟩
end
end L2
end
section
set_option Elab.async false
set_option linter.all false
set_option maxRecDepth 100000
namespace L2
open PySem PySem.Spec PyProof.Rows
noncomputable def asc (z : Str) : Bool := z.cps.all (· < 128)
noncomputable def Its (z : Str) : It := ⟨fun i _ => i < z.cps.size, fun i H x H' => H' = H ∧ ∃ c, z.cps[i]? = some c ∧ x = .str ⟨#[c]⟩, fun i _ => z.cps.size ≤ i⟩
theorem turn_str {P : Program} {w : World} {K : PySem.W.Frag} {tg : Expr} (z : Str) (t : Tok) (it : Addr) : Turn P w K tg (Its z) [it] it (fun i h => h.IsStrIter it "str_ascii_iterator" z t i) where
 mem := by simp
 obj := fun i h st b hb => by
  obtain rfl : b = it := by simpa using hb
  obtain ⟨o, e, c, d⟩ := st
  exact ⟨o, e, fun v q => by rw [d] at q; cases q⟩
 keep := fun i h h' st k => let ⟨o, e, r⟩ := st; ⟨o, k it (by simp) o e, r⟩
 item := by
  intro X hP hw hK hc i pins s σ H E I hf st hg
  subst hP hw hK
  have hg : i < z.cps.size := hg
  obtain ⟨f0, f1, f2, f3, f4, f5⟩ := hf it (by simp)
  refine wpAny_pyNext_ascii_item st (c := z.cps[i]) (by simp [hg]) fun h' st' sb => ?_
  have I1 : Inv X pins σ H { s with heap := h', toks := s.toks + 1 } := I.turned (fun b o hb e => (sb.2 b hb).trans e) f0 f1 f3 f4 f5
  obtain ⟨o, e, c, d⟩ := id st'
  exact ⟨_, rfl, go_of (s := { s with heap := h', toks := s.toks + 1 }) e c d (by decide) ⟨.str ⟨#[z.cps[i]]⟩, H, I1, ⟨_, rfl⟩, ⟨rfl, _, by simp [hg], rfl⟩, st', fun b hb => (hf b hb).1⟩⟩
 done := by
  intro X hP hw hK hc i pins s σ H E I hf st hg
  subst hP hw hK
  have hg : z.cps.size ≤ i := hg
  obtain ⟨f0, f1, f2, f3, f4, f5⟩ := hf it (by simp)
  exact wpAny_pyNext_ascii_end (I.ok.hd hc) st (by simp [hg]) fun h' eb => ⟨rfl, I.turned (t' := s.toks) (fun b o hb e => eb b o hb e) f0 f1 f3 f4 f5⟩
 self := fun _ _ _ _ _ st h => wpAny_pyIter_striter_ascii st h
section
variable {X : Cx} {tg : Expr}
noncomputable def iStr (tl : TE) : TI := fun σ H R => tl σ H fun x H1 => ∃ z, x = .str z ∧ asc z = true ∧ R (Its z) H1
theorem pi_str {l : Expr} {tl : TE} (hl : PE X l tl) : PI X tg l (iStr tl) := by
 intro pins s σ H R I h
 refine thn (hl pins s σ H _ I h) fun v s1 hZ_ => ?_
 obtain ⟨x, H1, I1, r1, q1⟩ := hZ_
 obtain ⟨z, rfl, ha, q⟩ := q1
 obtain ⟨t, rfl⟩ := r1
 refine wpAny_pyIter_ascii ha ?_
 refine ⟨s1.heap.objs.size, [s1.heap.objs.size], _, _, H1, rfl, I1.kept (t' := s1.toks) fun b o e => Heap.get?_push_of_some _ e, turn_str z t _, ⟨_, Heap.get?_push_size _ rfl, rfl, rfl⟩, fun b hb => ?_, q⟩
 obtain rfl : b = s1.heap.objs.size := by simpa using hb
 exact I1.fpOk (Nat.le_refl _) (I1.hok.fresh (Nat.le_refl _))
end
noncomputable def Iel (K : PySem.W.Frag) (a : Addr) : It :=
 ⟨fun i H => ∃ xs x, SqL K H a xs ∧ xs[i]? = some x, fun i H x H' => ∃ p v, H p = none ∧ x = .ref p ∧ H' = upd H p (.tup [.int i, v]) ∧ ∀ xs, SqL K H a xs → xs[i]? = some v, fun i H => ∃ xs, SqL K H a xs ∧ xs.length ≤ i⟩
theorem turn_enum {P : Program} {w : World} {K : PySem.W.Frag} {elts : List Expr} {x1} {pos : Pos} (a e it : Addr) (hne : e ≠ it) :
  Turn P w K (.Tuple elts x1 pos) (Iel K a) [e, it] e (fun i h => (∃ old, IsEnum h e it (i : Int) old) ∧ h.IsListIter it a i) where
 mem := by simp
 obj := fun i h st b hb => by
  obtain ⟨⟨old, he⟩, o, ho, hc, hd⟩ := st
  rcases List.mem_cons.mp hb with rfl | hb
  ·refine ⟨_, he, fun v q => ?_⟩
   have q' : Data.fields _ = Data.cell v := q
   cases q'
  ·obtain rfl : b = it := by simpa using hb
   exact ⟨o, ho, fun v q => by rw [hd] at q; cases q⟩
 keep := fun i h h' st k => by
  obtain ⟨⟨old, he⟩, o, ho, r⟩ := st
  exact ⟨⟨old, k e (by simp) _ he⟩, o, k it (by simp) o ho, r⟩
 item := by
  intro X hP hw hK hc i pins s σ H E I hf st hg
  subst hP hw hK
  obtain ⟨xs, x, hq, hx⟩ := hg
  obtain ⟨⟨old, he⟩, hit⟩ := st
  obtain ⟨its, rv, p, hz⟩ := I.list hq
  obtain ⟨u, hu, ru⟩ := rv.get hx
  obtain ⟨f0, f1, f2, f3, f4, f5⟩ := hf e (by simp)
  obtain ⟨g0, g1, g2, g3, g4, g5⟩ := hf it (by simp)
  refine wpAny_pyNext_enum_item he hit p.isList (x := u) (by simpa using hu) hne fun h1 ho hi ht hs k1 => ⟨_, rfl, ?_⟩
  have he' : e < s.heap.objs.size := Heap.lt_size he
  have hi' : it < s.heap.objs.size := by obtain ⟨o, q, _⟩ := hit; exact Heap.lt_size q
  refine wpAny_letOwnedTupleGo_enum (s := { s with heap := h1, toks := s.toks + 1 }) ho fun h2 hE sb => ?_
  have k2 : ∀ b o, b ≠ e → b ≠ it → s.heap.get? b = some o → h2.get? b = some o := fun b o n1 n2 q => sb.extBut b o n1 (k1 b o n1 n2 q)
  have ht2 : h2.get? s.heap.objs.size = some { cls := .type "tuple", data := .seq #[.int i s.toks, u] } := sb.extBut _ _ (Nat.ne_of_gt he') ht
  have hsz2 : h2.objs.size = s.heap.objs.size + 1 := by rw [sb.1]; exact hs
  have hHs : H s.heap.objs.size = none := I.hok.fresh (Nat.le_refl _)
  have nt : ∀ b o, H b = some o → b ≠ e ∧ b ≠ it := fun b o q => ⟨(fun z => by rw [z, f0] at q; cases q), (fun z => by rw [z, g0] at q; cases q)⟩
  have hok : HOk X.prog X.w (upd H s.heap.objs.size (.tup [.int i, x])) h2 := by
   have lift : ∀ b o, H b = some o → ObjOk X.prog X.w (upd H s.heap.objs.size (.tup [.int i, x])) h2 b o := fun b o q =>
    (I.hok b o q).stay (fun c v hcv r => k2 c v (by
     rcases hcv with z | z
     ·rw [z]; exact (nt b o q).1
     ·exact (nt c _ z).1) (by
     rcases hcv with z | z
     ·rw [z]; exact (nt b o q).2
     ·exact (nt c _ z).2) r) (fun c r => by rw [upd_ne (ne_of_none r hHs)]; exact r) fun c ys r => by rw [upd_ne (ne_of_none r hHs)]; exact r
   intro b o q
   by_cases eb : b = s.heap.objs.size
   ·subst eb
    rw [upd_same] at q
    cases q
    exact ⟨by show 2 ≤ sizeLine; decide, [.int i s.toks, u], .cons ⟨_, rfl⟩ (.cons ru .nil), ⟨_, ht2, rfl, _, rfl⟩⟩
   ·rw [upd_ne eb] at q
    exact lift b o q
  have I2 : Inv X pins σ (upd H s.heap.objs.size (.tup [.int i, x])) { s with heap := h2, toks := s.toks + 1 } := by
   refine I.step (g' := s.gens) (d' := s.drawn) (ch := [e, it]) (fun b hb => ?_) (fun b o hL hb hcb q n => ?_) (fun b o hL hb hcb q n => ?_) (fun b o hcb q n => ?_) (fun b o hcb q => ?_) (fun b ys q => by rw [upd_ne (ne_of_none q hHs)]; exact q) (fun b o u q => by rw [upd_ne (ne_of_none q hHs)]; exact q)
    (fun b ps q => ⟨#[], by rw [upd_ne (ne_of_none q hHs), q]; simp⟩) (fun m hm => ?_) hok I.bare
   ·rcases List.mem_cons.mp hb with rfl | hb
    ·exact ⟨f3, f1, f4, f5⟩
    ·obtain rfl : b = it := by simpa using hb
     exact ⟨g3, g1, g4, g5⟩
   ·simp only [List.mem_cons, List.not_mem_nil, or_false, not_or] at hcb
    exact k2 b o hcb.1 hcb.2 q
   ·simp only [List.mem_cons, List.not_mem_nil, or_false, not_or] at hcb
    exact ⟨o.slots, k2 b o hcb.1 hcb.2 q⟩
   ·rw [upd_ne (Nat.ne_of_lt (Heap.lt_size q))]; exact n
   ·simp only [List.mem_cons, List.not_mem_nil, or_false, not_or] at hcb
    exact ⟨o, k2 b o hcb.1 hcb.2 q⟩
   ·obtain ⟨o, es, ep, q, r⟩ := hm
    exact ⟨o, es, ep, k2 _ o (Ne.symm f1) (Ne.symm g1) q, r⟩
  refine ⟨.ref s.heap.objs.size, _, I2, rfl, ⟨_, x, hHs, rfl, rfl, fun ys hy => by rw [I.list_inj hy hq]; exact hx⟩, ⟨⟨_, by have := hE; rw [show ((i : Int) + 1) = ((i + 1 : Nat) : Int) by omega] at this; exact this⟩, ?_⟩, fun b hb => ?_⟩
  ·obtain ⟨o, q, r⟩ := hi
   exact ⟨o, sb.extBut _ _ (Ne.symm hne) q, r⟩
  ·rcases List.mem_cons.mp hb with rfl | hb
   ·rw [upd_ne (Nat.ne_of_lt he')]; exact f0
   ·obtain rfl : b = it := by simpa using hb
    rw [upd_ne (Nat.ne_of_lt hi')]; exact g0
 done := by
  intro X hP hw hK hc i pins s σ H E I hf st hg
  subst hP hw hK
  obtain ⟨xs, hq, hx⟩ := hg
  obtain ⟨⟨old, he⟩, hit⟩ := st
  obtain ⟨its, rv, p, hz⟩ := I.list hq
  obtain ⟨g0, g1, g2, g3, g4, g5⟩ := hf it (by simp)
  have hl := rv.length
  exact wpAny_pyNext_enum_end (I.ok.hd hc) he hit p.isList (by simp; omega) fun h' eb => ⟨rfl, I.turned (t' := s.toks) (fun b o hb q => eb b o hb q) g0 g1 g3 g4 g5⟩
 self := fun _ _ _ _ _ st h => by
  obtain ⟨⟨old, he⟩, _⟩ := st
  exact wpAny_pyIter_enum he h
section
variable {X : Cx}
noncomputable def iEnum (K : PySem.W.Frag) (ta : TA) : TI := fun σ H R => ta σ H fun vs H1 => ∃ a, vs = [.ref a] ∧ (∃ xs, SqL K H1 a xs) ∧ R (Iel K a) H1
theorem pi_enum {l : Expr} {ta : TA} {p pos tpos : Pos} {elts : List Expr} {x1} (hg : Gl X "enumerate") (hm : X.mg "enumerate" = none) (ha : PA X [l] ta) (hs : starEach [l] X.env = [(false, eval l X.env)] := by rfl) :
  PI X (.Tuple elts x1 tpos) (.Call (.Name "enumerate" p) [l] [] pos) (iEnum X.K ta) := by
 intro pins s σ H R I h
 refine Call_ (ld_blt I hg hm (u := .type "enumerate") (by decide +kernel) (PyProof.Rows.callWith_type1 (thn (ha pos pins s σ H _ I h) fun us s1 hZ_ => ?_) hs rfl))
 obtain ⟨vs, H1, I1, r1, q1⟩ := hZ_
 obtain ⟨a, rfl, ⟨xs, hq⟩, q⟩ := q1
 obtain ⟨u, rfl, ru⟩ := vals1 r1
 cases ru
 obtain ⟨its, rv, pl, hz⟩ := I1.list hq
 refine call_enumerate_list pl.isList fun h' he hit hsz hk => ?_
 refine wpAny_pyIter_enum he ?_
 have I2 : Inv X pins σ H1 { s1 with heap := h' } := I1.kept (t' := s1.toks) hk
 refine ⟨_, _, _, _, H1, rfl, I2, turn_enum a (s1.heap.objs.size + 1) s1.heap.objs.size (Nat.succ_ne_self _), ⟨⟨_, he⟩, hit⟩, fun b hb => ?_, q⟩
 rcases List.mem_cons.mp hb with rfl | hb
 ·exact I1.fpOk (Nat.le_succ _) (I1.hok.fresh (Nat.le_succ _))
 ·obtain rfl : b = s1.heap.objs.size := by simpa using hb
  exact I1.fpOk (Nat.le_refl _) (I1.hok.fresh (Nat.le_refl _))
end
end L2
end
section
set_option Elab.async false
set_option linter.all false
set_option maxRecDepth 100000
namespace L2
open PySem PySem.Spec PyProof.Rows
section
variable {prog : Program} {w : World} {A : Around} {E : Value → Shared → Prop} {s : Shared}
end
end L2
end
section
set_option Elab.async false
set_option linter.all false
set_option maxRecDepth 100000
namespace L2
open PySem PySem.Spec PyProof.Rows
section
variable {X : Cx}
noncomputable def SetO (P : Program) (w : World) (a : Addr) (S : Key → Bool) (n : Nat) : HO := .ext fun h => h.SetOf (mixKind P w) a S n
theorem setO_ok {P : Program} {w : World} {H : Hp} {h : Heap} {a : Addr} {S : Key → Bool} {n : Nat} (x : h.SetOf (mixKind P w) a S n) : ObjOk P w H h a (SetO P w a S n) := by
 obtain ⟨o, r⟩ := id x
 obtain ⟨es, ep, t, e, r⟩ := r
 refine ⟨x, ⟨o, e⟩, fun h1 h2 ⟨o1, es1, ep1, t1, e1, r1⟩ k => ⟨o1, es1, ep1, t1, k _ e1, r1⟩⟩
theorem call_set0 : CallR X (.type "set") (fun xs H Q => xs = [] ∧ ∀ p, H p = none → Q (.ref p) (upd H p (SetO X.prog X.w p (fun _ => false) 0))) := by
 intro pins s σ H xs us Q I r h
 obtain ⟨rfl, q⟩ := h
 cases r
 refine call_set_0 fun led => ?_
 have hget : (s.heap.push { cls := .type "set", dict := none, data := .set #[] 0 (.fresh 0 0 led) }).get? s.heap.objs.size = some { cls := .type "set", dict := none, data := .set #[] 0 (.fresh 0 0 led) } := Heap.get?_push_size _ rfl
 refine ⟨.ref s.heap.objs.size, _, I.laid (t' := s.toks) (o := SetO X.prog X.w s.heap.objs.size (fun _ => false) 0) (fun b o e => Heap.get?_push_of_some _ e) (Nat.le_refl _) (setO_ok ?_), rfl, q _ (I.hok.fresh (Nat.le_refl _))⟩
 letI : BEq Key := ⟨fun a b => decide (a = b)⟩
 haveI : LawfulBEq Key := { eq_of_beq := fun h => of_decide_eq_true h, rfl := decide_eq_true rfl }
 exact SetOf_congr ((setObjOf_fresh (knd := mixKind X.prog X.w) led).setOf hget (by unfold scanBound; omega)) (fun _ => rfl) rfl
theorem kV_isK {k : Key} {u : Value} (r : RelV (kV k) u) : keyIs k u = true ∧ u.scannable = true := by
 cases k with
 | inl i => obtain ⟨t, rfl⟩ := r; exact ⟨keyIs_int i t, rfl⟩
 | inr x => obtain ⟨t, rfl⟩ := r; exact ⟨keyIs_str x t, rfl⟩
noncomputable def rInSet (P : Program) (w : World) : R2 := fun x y H Q => ∃ a S n k, y = .ref a ∧ x = kV k ∧ H a = some (SetO P w a S n) ∧ Q (.bl (S k)) H
theorem op_in_set : OpR X (compareOp .In) (rInSet X.prog X.w) := by
 intro pins s σ H x y v u Q I rx ry h
 obtain ⟨a, S, n, k, rfl, rfl, ha, q⟩ := h
 cases ry
 obtain ⟨h1, h2⟩ := kV_isK rx
 obtain ⟨hS, _⟩ := I.hok _ _ ha
 exact wpAny_inSet_of (knd := mixKind X.prog X.w) h1 h2 hS ⟨.bl _, H, I.tok _, rfl, q⟩
noncomputable def rSetAdd (P : Program) (w : World) : V → List V → Hp → VK → Prop := fun x vs H Q => ∃ a S n k, x = .ref a ∧ vs = [kV k] ∧ H a = some (SetO P w a S n) ∧ n < 4000 ∧ Q .non (upd H a (SetO P w a (fun j => S j || decide (j = k)) (if S k then n else n + 1)))
theorem mt_set_add : MtM X "set.add" (rSetAdd X.prog X.w) := by
 intro pins s σ H x vs v us Q I rx rv h
 obtain ⟨a, S, n, k, rfl, rfl, ha, hz, q⟩ := h
 cases rx
 obtain ⟨u, rfl, ru⟩ := rv.one
 obtain ⟨h1, h2⟩ := kV_isK ru
 obtain ⟨hS, _⟩ := id (I.hok _ _ ha)
 refine call_set_add (knd := mixKind X.prog X.w) h1 h2 hS (by unfold scanBound; omega) fun h' sb hS' => ?_
 have he : ∃ u, h'.get? a = some u := by obtain ⟨o, es, ep, t, e, _⟩ := hS'; exact ⟨o, e⟩
 exact ⟨.non, _, I.write (x := a) (e := a) (t' := s.toks + 1) (by rw [ha]; trivial) (.inl rfl) (fun b o hb e => sb.extBut b o hb e) he (setO_ok hS'), rfl, q⟩
end
end L2
end
section
set_option Elab.async false
set_option linter.all false
set_option maxRecDepth 100000
namespace L2
open PySem PySem.Spec PyProof.Rows
section
variable {prog : Program} {w : World} {A : Around} {E : Value → Shared → Prop}
theorem drawL {it l : Addr} {its : Array Value} (ne : l ≠ it) : ∀ (n i : Nat) (s : Shared) (Q : List Value → Shared → Prop), s.heap.IsListIter it l i → s.heap.IsList l its → i + n ≤ its.size →
  (∀ h', h'.IsListIter it l (i + n) → Heap.SameBut it s.heap h' → Q ((its.toList.drop i).take n) { s with heap := h' }) → wpAny (model prog w) A (draw (.ref it) n) Q E s
 | 0, i, s, Q, a, _, _, q => by
  show wpAny _ _ (pure []) Q E s
  exact wpAny_pure (by simpa using q s.heap a (Heap.SameBut.refl ..))
 | n + 1, i, s, Q, a, b, le, q => by
  have lt : i < its.size := by omega
  show wpAny _ _ (pyNext (.ref it) >>= _) Q E s
  refine wpAny_bind (wpAny_pyNext_list_item a b (x := its[i]) (by simp [lt]) fun h1 a1 s1 => ?_)
  refine wpAny_bind (wpAny_holding (drawL ne n (i + 1) _ _ a1 (b.extBut s1.extBut ne) (by omega) fun h2 a2 s2 => wpAny_pure ?_))
  have e : its.toList.drop i = its[i] :: its.toList.drop (i + 1) := by simp [List.drop_eq_getElem_cons, lt]
  have z := q h2 (by rw [show i + (n + 1) = i + 1 + n by omega]; exact a2) (s1.trans s2)
  rw [e, List.take_succ_cons] at z
  exact z
theorem unpackL {s : Shared} {t : Addr} {its : Array Value} {tgs : List (Bool × (Value → Sem Unit))} {Q : Unit → Shared → Prop} (hh : A.handled = none) (ht : s.heap.IsList t its)
  (hn : tgs.length = its.size) (hst : tgs.findIdx? (·.1) = none)
  (h : ∀ h', Heap.ExtBut s.heap.objs.size s.heap h' → wpAny (model prog w) A (assignInOrder (tgs.map (·.2)) its.toList) Q E { s with heap := h' }) :
  wpAny (model prog w) A (unpack (.ref t) tgs) Q E s := by
 have ne : t ≠ s.heap.objs.size := by obtain ⟨o, ho, _⟩ := ht; exact Nat.ne_of_lt (Heap.lt_size ho)
 unfold unpack
 rw [hn, hst]
 refine wpAny_bind (wpAny_holding ?_)
 unfold unpackItems
 refine wpAny_bind ?_
 ·unfold notIterableAtAll
  refine wpAny_bind (wpAny_specialOf ht.typeIs slot_list_iter.lookup (wpAny_pure ?_))
  simp only [Bool.false_eq_true, if_false]
  refine wpAny_bind (wpAny_holding (wpAny_pyIter_list ht ?_))
  refine wpAny_bind (wpAny_holding (drawL ne its.size 0 _ _ ⟨_, Heap.get?_push_size _ rfl, rfl, rfl⟩ (ht.push _) (by omega) fun h1 a1 s1 => ?_))
  have all : List.take its.size (List.drop 0 its.toList) = its.toList := by rw [List.drop_zero]; exact List.take_of_length_le (by simp)
  rw [all, if_neg (by simp)]
  have b1 : h1.IsList t its := (ht.push _).extBut s1.extBut ne
  refine wpAny_bind (wpAny_holding (wpAny_pyNext_list_end hh a1 b1 (by simp) fun h2 e2 => ?_))
  simp only [Option.isSome_none, Bool.false_eq_true, if_false]
  exact wpAny_pure (h h2 fun b o hb e => e2 b o hb (s1.extBut b o hb (Heap.get?_push_of_some _ e)))
end
section
variable {X : Cx} {pos : Pos}
noncomputable def gLst (K : PySem.W.Frag) (n : Nat) (t : TGs) : TG := fun v σ H Q => ∃ a xs, v = .ref a ∧ SqL K H a xs ∧ xs.length = n ∧ t xs σ H Q
theorem pg_lst {es : List Expr} {k : Nat} {t : TGs} {n : Nat} (hc : X.calm = true) (h : PGs X es t)
  (hn : (assignEach es X.env).length = n := by rfl) (hst : (assignEach es X.env).findIdx? (·.1) = none := by rfl) : PG X (.Tuple es k pos) (gLst X.K n t) := by
 intro pins s σ H v u Q I r hw
 obtain ⟨a, xs, rfl, hq, hl, hw⟩ := hw
 cases r
 obtain ⟨its, rv, pl, hz⟩ := I.list hq
 rw [assign_Tuple]
 refine wpAny_bind (wpAny_standAt (unpackL (I.ok.hd hc) pl.isList (by simp [hn, ← hl, rv.length]) hst fun h' hx => ?_))
 have I1 : Inv X pins σ H { s with heap := h' } := I.kept (t' := s.toks) fun b o e => hx b o (Nat.ne_of_lt (Heap.lt_size e)) e
 exact h pins _ σ H xs _ Q I1 (by simpa using rv) hw
theorem op_le_str : OpR X (compareOp .LtE) (fun x y H Q => ∃ i j, x = .str i ∧ y = .str j ∧ Q (.bl (!decide (j.cps.toList < i.cps.toList))) H) := by
 intro pins s σ H x y v u Q I rx ry h
 obtain ⟨i, j, rfl, rfl, q⟩ := h
 obtain ⟨t, rfl⟩ := rx
 obtain ⟨t', rfl⟩ := ry
 exact PySem.P.le_str (fin_bl I q rfl)
theorem sl_str : SlR X (fun x lo hi H Q => ∃ z, x = .str z ∧ z.length ≤ sizeLine ∧ Q (.str (Txt.slice z lo hi)) H) := by
 intro pins s σ H x v vl vu lo hi sl Q I rx hs pl pu h
 obtain ⟨z, rfl, hz, q⟩ := h
 obtain ⟨t, rfl⟩ := rx
 have fin : ∀ t' k, EP X pins σ Q (.str (Txt.slice z lo hi) t') { s with toks := k } := fun t' k => ⟨.str _, H, I.tok k, ⟨_, rfl⟩, q⟩
 have hle := Nat.le_trans (Txt.slice_le z lo hi) hz
 refine ⟨"str", _, F.slot_str_getitem.lookup, typeIs_str _ _ _, ?_⟩
 cases pl with
 | none =>
  cases pu with
  | none => exact wpAny_getItem_str_slice (l := none) (u := none) (st := none) hs rfl (post_val_or_str ⟨hle, fin⟩)
  | int j uj => exact wpAny_getItem_str_slice (l := none) (u := some (j, uj)) (st := none) hs rfl (post_val_or_str ⟨hle, fin⟩)
 | int i ui =>
  cases pu with
  | none => exact wpAny_getItem_str_slice (l := some (i, ui)) (u := none) (st := none) hs rfl (post_val_or_str ⟨hle, fin⟩)
  | int j uj => exact wpAny_getItem_str_slice (l := some (i, ui)) (u := some (j, uj)) (st := none) hs rfl (post_val_or_str ⟨hle, fin⟩)
end
end L2
end
section
set_option Elab.async false
set_option linter.all false
set_option maxRecDepth 100000
namespace L2
open PySem PySem.Spec PyProof.Rows
open AutoSeq1 (wpAny_loadPart')
section
variable {prog : Program} {w : World} {A : Around} {E : Value → Shared → Prop} {s : Shared}
theorem nextT {it l : Addr} {i : Nat} {its : Array Value} {x : Value} {Q : Value → Shared → Prop} (a : s.heap.IsTupleIter it l i) (b : s.heap.IsTuple l its) (hx : its[i]? = some x)
  (q : ∀ h', h'.IsTupleIter it l (i + 1) → Heap.SameBut it s.heap h' → Q x { s with heap := h' }) : wpAny (model prog w) A (Builtin.SmallTypes.nextOf (.ref it)) Q E s := by
 obtain ⟨o, o1, o2, o3⟩ := id a
 obtain ⟨p, p1, _, n, p2⟩ := b
 unfold Builtin.SmallTypes.nextOf
 refine wpAny_bind (wpAny_callSpecial?_slot (name := Str.ofString "__next__") a.typeIs F.slot_tuple_iterator_next (wpAny_call_entry F.slot_tuple_iterator_next a.typeIs F.entry_tuple_iterator_next ?_ (F.args_tuple_iterator_next_1 _)))
 show wpAny _ _ (field (.ref it) 0 >>= _) _ _ s
 refine wpAny_bind (wpAny_field o1 o3 (x := .ref l) rfl ?_)
 show wpAny _ _ (if (Value.ref l == Value.none) = true then _ else _) _ _ s
 rw [if_neg (show ¬ ((Value.ref l == Value.none) = true) from Bool.false_ne_true)]
 show wpAny _ _ (field (.ref it) 1 >>= _) _ _ s
 refine wpAny_bind (wpAny_field o1 o3 (x := .int i 0) rfl ?_)
 show wpAny _ _ (seqItems? (.ref l) >>= _) _ _ s
 refine wpAny_bind (wpAny_seqItems p1 p2 ?_)
 simp only [Int.toNat_natCast, hx]
 refine wpAny_bind (wpAny_setField o1 o3 (by simp) (wpAny_pure ⟨x, rfl, wpAny_pure (q _ ?_ (Heap.SameBut.update ..))⟩))
 exact ⟨_, Heap.get?_update_self _ o1 (Obj.isFreed_of_fields (Obj.data_mapFields o3 _)), (Obj.cls_mapFields ..).trans o2, by rw [Obj.data_mapFields o3]; simp [rawInt]⟩
theorem nextTend {it l : Addr} {i : Nat} {its : Array Value} {Q : Value → Shared → Prop} (hh : A.handled = none) (a : s.heap.IsTupleIter it l i) (b : s.heap.IsTuple l its) (hx : its[i]? = none)
  (q : ∀ h' e, Heap.ExtBut it s.heap h' → (∃ o, h'.get? e = some o ∧ o.cls = .type "StopIteration") → E (.ref e) { s with heap := h' }) : wpAny (model prog w) A (Builtin.SmallTypes.nextOf (.ref it)) Q E s := by
 obtain ⟨o, o1, o2, o3⟩ := id a
 obtain ⟨p, p1, _, n, p2⟩ := b
 unfold Builtin.SmallTypes.nextOf
 refine wpAny_bind (wpAny_callSpecial?_slot (name := Str.ofString "__next__") a.typeIs F.slot_tuple_iterator_next (wpAny_call_entry F.slot_tuple_iterator_next a.typeIs F.entry_tuple_iterator_next ?_ (F.args_tuple_iterator_next_1 _)))
 show wpAny _ _ (field (.ref it) 0 >>= _) _ _ s
 refine wpAny_bind (wpAny_field o1 o3 (x := .ref l) rfl ?_)
 show wpAny _ _ (if (Value.ref l == Value.none) = true then _ else _) _ _ s
 rw [if_neg (show ¬ ((Value.ref l == Value.none) = true) from Bool.false_ne_true)]
 show wpAny _ _ (field (.ref it) 1 >>= _) _ _ s
 refine wpAny_bind (wpAny_field o1 o3 (x := .int i 0) rfl ?_)
 show wpAny _ _ (seqItems? (.ref l) >>= _) _ _ s
 refine wpAny_bind (wpAny_seqItems p1 p2 ?_)
 simp only [Int.toNat_natCast, hx]
 refine wpAny_bind (wpAny_rule (wpAny_bind (wpAny_setField o1 o3 (by simp) ?_)))
 show wpAny _ _ (newExc (.type "StopIteration") [] >>= _) _ _ _
 refine wpAny_bind ?_
 simp only [newExc, newTuple]
 refine wpAny_bind (wpAny_newObj_type ?_ (by size_fits))
 refine wpAny_bind (m := firstArgMember _ _) (wpAny_of_eq (a := Value.none) (by first | rfl | (simp only [firstArgMember]; rfl)) ?_)
 refine wpAny_newObj_type ?_ (by size_fits)
 simp only [raiseNew]
 refine wpAny_bind (wpAny_handled ?_)
 first | rw [show A.in1.handled = none from hh] | rw [hh]
 refine wpAny_bind (wpAny_pure (wpAny_throw ?_))
 refine q _ _ (fun b o hb e => ?_) ⟨_, Heap.get?_push_size _ rfl, rfl⟩
 exact Heap.get?_push_of_some _ (Heap.get?_push_of_some _ ((Heap.SameBut.update ..).extBut b o hb e))
theorem enumT_item {e it l : Addr} {i : Nat} {its : Array Value} {x old : Value} {Q : Option Value → Shared → Prop}
  (he : IsEnum s.heap e it i old) (a : s.heap.IsTupleIter it l i) (b : s.heap.IsTuple l its) (hx : its[i]? = some x) (ne : e ≠ it)
  (q : ∀ h', IsEnumOut h' e it ((i : Int) + 1) x s.heap.objs.size → h'.IsTupleIter it l (i + 1) →
   h'.get? s.heap.objs.size = some { cls := .type "tuple", data := .seq #[.int i s.toks, x] } → h'.objs.size = s.heap.objs.size + 1 →
   (∀ b o, b ≠ e → b ≠ it → s.heap.get? b = some o → h'.get? b = some o) → Q (some (.ref s.heap.objs.size)) { s with heap := h', toks := s.toks + 1 }) :
  wpAny (model prog w) A (pyNext (.ref e)) Q E s := by
 have hT : s.TypeIs (.ref e) "enumerate" := ⟨_, he, rfl⟩
 unfold pyNext
 refine wpAny_bind (wpAny_attempt (wpAny_callSpecial?_slot (name := Str.ofString "__next__") hT F.slot_enumerate_next (wpAny_call_entry F.slot_enumerate_next hT F.entry_enumerate_next ?_ (F.args_enumerate_next_1 _))))
 obtain ⟨hp, g, d, tk, os⟩ := s
 show wpAny _ _ (field (.ref e) 2 >>= _) _ _ _
 refine wpAny_bind (wpAny_field he rfl (x := .ref it) rfl ?_)
 refine wpAny_bind (nextT a b hx fun h1 a1 s1 => ?_)
 replace s1 : Heap.SameBut it hp h1 := s1
 have e1 : IsEnum h1 e it i old := (s1.2 e ne).trans he
 show wpAny _ _ (field (.ref e) 3 >>= _) _ _ ⟨h1, g, d, tk, os⟩
 refine wpAny_bind (wpAny_field e1 rfl (x := rawInt i) rfl ?_)
 show wpAny _ _ (field (.ref e) 4 >>= _) _ _ ⟨h1, g, d, tk, os⟩
 refine wpAny_bind (wpAny_field e1 rfl (x := .none) rfl ?_)
 show wpAny _ _ (mkInt i >>= _) _ _ ⟨h1, g, d, tk, os⟩
 refine wpAny_bind (wpAny_mkInt ?_)
 show wpAny _ _ (setField (.ref e) 3 (rawInt ((i : Int) + 1)) >>= _) _ _ ⟨h1, g, d, tk + 1, os⟩
 refine wpAny_bind (wpAny_setField_rec e1 (by simp) fun h2 e2 s2 => ?_)
 replace s2 : Heap.SameBut e h1 h2 := s2
 replace e2 : IsEnum h2 e it ((i : Int) + 1) old := e2
 show wpAny _ _ (setField (.ref e) 4 .none >>= _) _ _ ⟨h2, g, d, tk + 1, os⟩
 refine wpAny_bind (wpAny_setField_rec e2 (by simp) fun h3 e3 s3 => ?_)
 replace s3 : Heap.SameBut e h2 h3 := s3
 replace e3 : IsEnum h3 e it ((i : Int) + 1) old := e3
 show wpAny _ _ (newTuple [.int i tk, x] >>= _) _ _ ⟨h3, g, d, tk + 1, os⟩
 refine wpAny_bind (wpAny_newTuple ?_)
 have e4 : IsEnum (h3.push { cls := .type "tuple", data := .seq #[.int i tk, x] }) e it ((i : Int) + 1) old := Heap.get?_push_of_some _ e3
 generalize hh4 : h3.push { cls := .type "tuple", data := .seq #[.int i tk, x] } = h4 at e4
 have sz : h3.objs.size = hp.objs.size := by rw [s3.1, s2.1, s1.1]
 have el : e < hp.objs.size := Heap.lt_size he
 have t4 : h4.get? hp.objs.size = some { cls := .type "tuple", data := .seq #[.int i tk, x] } := by rw [← hh4, ← sz]; exact Heap.get?_push_size _ rfl
 have z4 : h4.objs.size = hp.objs.size + 1 := by rw [← hh4, Heap.size_push, sz]
 have k4 : ∀ b o, b ≠ e → b ≠ it → hp.get? b = some o → h4.get? b = some o := fun b o n1 n2 hb => by
  rw [← hh4]; exact Heap.get?_push_of_some _ (s3.extBut b o n1 (s2.extBut b o n1 (s1.extBut b o n2 hb)))
 have a4 : h4.IsTupleIter it l (i + 1) := by
  rw [← hh4]; obtain ⟨o, ho, r⟩ := (a1.extBut s2.extBut (Ne.symm ne)).extBut s3.extBut (Ne.symm ne); exact ⟨o, Heap.get?_push_of_some _ ho, r⟩
 show wpAny _ _ (Builtin.SmallTypes.ownedTupleIsFree (.ref e) >>= _) _ _ ⟨h4, g, d, tk + 1, os⟩
 rw [sz]
 clear hh4 e3 s3 e2 s2 e1 s1 a1 sz h3 h2 h1
 refine wpAny_bind ?_
 unfold Builtin.SmallTypes.ownedTupleIsFree
 refine wpAny_bind (wpAny_field e4 rfl (x := .none) rfl (wpAny_pure ?_))
 simp only [if_true]
 refine wpAny_bind (wpAny_rule ?_)
 refine wpAny_bind (wpAny_field e4 rfl (x := old) rfl ?_)
 refine wpAny_bind (wpAny_setField_rec e4 (by simp) fun h5 e5 s5 => ?_)
 replace s5 : Heap.SameBut e h4 h5 := s5
 replace e5 : IsEnum h5 e it ((i : Int) + 1) x := e5
 show wpAny _ _ (Builtin.SmallTypes.ownedTupleHandOut (.ref e) (.ref hp.objs.size) >>= _) _ _ ⟨h5, g, d, tk + 1, os⟩
 refine wpAny_bind ?_
 unfold Builtin.SmallTypes.ownedTupleHandOut
 refine wpAny_bind (wpAny_setField_rec e5 (by simp) fun h6 e6 s6 => ?_)
 replace s6 : Heap.SameBut e h5 h6 := s6
 replace e6 : IsEnumOut h6 e it ((i : Int) + 1) x hp.objs.size := e6
 refine wpAny_setField_rec e6 (by simp) fun h7 e7 s7 => ?_
 replace s7 : Heap.SameBut e h6 h7 := s7
 replace e7 : IsEnumOut h7 e it ((i : Int) + 1) x hp.objs.size := e7
 refine wpAny_bind (wpAny_letGo (wpAny_pure ⟨_, rfl, wpAny_pure (q h7 e7 ?_ ?_ ?_ ?_)⟩))
 ·exact ((a4.extBut s5.extBut (Ne.symm ne)).extBut s6.extBut (Ne.symm ne)).extBut s7.extBut (Ne.symm ne)
 ·exact s7.extBut _ _ (Nat.ne_of_gt el) (s6.extBut _ _ (Nat.ne_of_gt el) (s5.extBut _ _ (Nat.ne_of_gt el) t4))
 ·rw [s7.1, s6.1, s5.1, z4]
 ·exact fun b o n1 n2 hb => s7.extBut b o n1 (s6.extBut b o n1 (s5.extBut b o n1 (k4 b o n1 n2 hb)))
theorem enumT_end {e it l : Addr} {i : Nat} {its : Array Value} {old : Value} {Q : Option Value → Shared → Prop} (hh : A.handled = none)
  (he : IsEnum s.heap e it i old) (a : s.heap.IsTupleIter it l i) (b : s.heap.IsTuple l its) (hx : its[i]? = none)
  (q : ∀ h', Heap.ExtBut it s.heap h' → Q none { s with heap := h' }) : wpAny (model prog w) A (pyNext (.ref e)) Q E s := by
 have hT : s.TypeIs (.ref e) "enumerate" := ⟨_, he, rfl⟩
 unfold pyNext
 refine wpAny_bind (wpAny_attempt (wpAny_callSpecial?_slot (name := Str.ofString "__next__") hT F.slot_enumerate_next (wpAny_call_entry F.slot_enumerate_next hT F.entry_enumerate_next ?_ (F.args_enumerate_next_1 _))))
 show wpAny _ _ (field (.ref e) 2 >>= _) _ _ _
 refine wpAny_bind (wpAny_field he rfl (x := .ref it) rfl ?_)
 refine wpAny_bind (nextTend hh a b hx fun h' x k1 k2 => ?_)
 obtain ⟨o, o1, o2⟩ := k2
 refine wpAny_bind (wpAny_isInstance (T := "StopIteration") (b := true) ⟨o, o1, o2⟩ isSubtype_stop ?_)
 exact wpAny_pure (q _ k1)
theorem enumT_new (l : Addr) (its : Array Value) (n : Nat) (dct : Option Addr) (sl : Array (Option Value)) :
  Meets (Builtin.«enumerate.__new__» ⟨[.type "enumerate", .ref l], []⟩) (fun _ R s => s.heap.get? l = some { cls := .type "tuple", dict := dct, data := .seq its n, slots := sl } ∧
   R (.ok (.ret (.ref (s.heap.push { cls := .type "tuple_iterator", data := .fields #[.ref l, .int 0 0] }).objs.size)))
    { s with heap := (s.heap.push { cls := .type "tuple_iterator", data := .fields #[.ref l, .int 0 0] }).push { cls := .type "enumerate", data := .fields #[.none, .bool false, .ref s.heap.objs.size, rawInt 0, .none, .none] } }) :=
 .of_wp fun prog w A R s h => by
  obtain ⟨hp, g, d, tk, os⟩ := s; obtain ⟨hl, h⟩ := h
  have hsub := sub_enumerate
  have hL : Heap.IsTuple (Shared.heap ⟨hp, g, d, tk, os⟩) l its := ⟨_, hl, rfl, n, rfl⟩
  wp_walk using wpAny_loadPart' hl
  refine wpAny_stack_any fun st => wpAny_pure ?_
  split
  ·rename_i c _ _ _ _ _
   cases (c == Value.type "enumerate")
   all_goals
    wp_walk using wpAny_loadPart' hl, wpAny_pyIter_tuple hL
    exact ⟨_, rfl, h⟩
  ·wp_walk using wpAny_loadPart' hl, wpAny_pyIter_tuple hL
   exact ⟨_, rfl, h⟩
theorem call_enumT {l : Addr} {its : Array Value} {Q : Value → Shared → Prop} (hL : s.heap.IsTuple l its)
  (h : ∀ h', IsEnum h' (s.heap.objs.size + 1) s.heap.objs.size 0 .none → h'.IsTupleIter s.heap.objs.size l 0 → h'.objs.size = s.heap.objs.size + 2 →
   (∀ b o, s.heap.get? b = some o → h'.get? b = some o) → Q (.ref (s.heap.objs.size + 1)) { s with heap := h' }) :
  wpAny (model prog w) A (call (.type "enumerate") [.ref l]) Q E s := by
 obtain ⟨⟨c, dct, dt, sl⟩, hl, hc, n, hd⟩ := hL
 replace hc : c = .type "tuple" := hc
 replace hd : dt = .seq its n := hd
 subst hc hd
 refine callType_new F.called_enumerate (by decide) (F.typeCall_enumerate_1 _) (F.newCall_enumerate_1 _) (fun obj => F.args_object_init_2 obj _) F.entry_enumerate_new (enumT_new l its n dct sl) ⟨hl, ?_⟩
 have hz : (s.heap.push { cls := .type "tuple_iterator", data := .fields #[.ref l, .int 0 0] }).objs.size = s.heap.objs.size + 1 := Heap.size_push ..
 show _ ∧ _
 rw [hz]
 have he : IsEnum ((s.heap.push { cls := .type "tuple_iterator", data := .fields #[.ref l, .int 0 0] }).push
   { cls := .type "enumerate", data := .fields #[.none, .bool false, .ref s.heap.objs.size, rawInt 0, .none, .none] }) (s.heap.objs.size + 1) s.heap.objs.size 0 .none := by
  have := Heap.get?_push_size (s.heap.push { cls := .type "tuple_iterator", data := .fields #[.ref l, .int 0 0] })
   (o := { cls := .type "enumerate", data := .fields #[.none, .bool false, .ref s.heap.objs.size, rawInt 0, .none, .none] }) rfl
  rw [hz] at this; exact this
 refine ⟨⟨_, he, rfl⟩, h _ he ⟨_, Heap.get?_push_of_some _ (Heap.get?_push_size _ rfl), rfl, rfl⟩ (by rw [Heap.size_push, hz]) fun b o x => Heap.get?_push_of_some _ (Heap.get?_push_of_some _ x)⟩
end
end L2
end
section
set_option Elab.async false
set_option linter.all false
set_option maxRecDepth 100000
namespace L2
open PySem PySem.Spec PyProof.Rows
noncomputable def Iet (K : PySem.W.Frag) (a : Addr) : It :=
 ⟨fun i H => ∃ xs x, SqT K H a xs ∧ xs[i]? = some x, fun i H x H' => ∃ p v, H p = none ∧ x = .ref p ∧ H' = upd H p (.tup [.int i, v]) ∧ ∀ xs, SqT K H a xs → xs[i]? = some v, fun i H => ∃ xs, SqT K H a xs ∧ xs.length ≤ i⟩
theorem turn_enumT {P : Program} {w : World} {K : PySem.W.Frag} {elts : List Expr} {x1} {pos : Pos} (a e it : Addr) (hne : e ≠ it) :
  Turn P w K (.Tuple elts x1 pos) (Iet K a) [e, it] e (fun i h => (∃ old, IsEnum h e it (i : Int) old) ∧ h.IsTupleIter it a i) where
 mem := by simp
 obj := fun i h st b hb => by
  obtain ⟨⟨old, he⟩, o, ho, hc, hd⟩ := st
  rcases List.mem_cons.mp hb with rfl | hb
  ·refine ⟨_, he, fun v q => ?_⟩
   have q' : Data.fields _ = Data.cell v := q
   cases q'
  ·obtain rfl : b = it := by simpa using hb
   exact ⟨o, ho, fun v q => by rw [hd] at q; cases q⟩
 keep := fun i h h' st k => by
  obtain ⟨⟨old, he⟩, o, ho, r⟩ := st
  exact ⟨⟨old, k e (by simp) _ he⟩, o, k it (by simp) o ho, r⟩
 item := by
  intro X hP hw hK hc i pins s σ H E I hf st hg
  subst hP hw hK
  obtain ⟨xs, x, hq, hx⟩ := hg
  obtain ⟨⟨old, he⟩, hit⟩ := st
  obtain ⟨its, rv, p, hz⟩ := I.tuple hq
  obtain ⟨u, hu, ru⟩ := rv.get hx
  obtain ⟨f0, f1, f2, f3, f4, f5⟩ := hf e (by simp)
  obtain ⟨g0, g1, g2, g3, g4, g5⟩ := hf it (by simp)
  refine enumT_item he hit (show s.heap.IsTuple a its.toArray from p) (x := u) (by simpa using hu) hne fun h1 ho hi ht hs k1 => ⟨_, rfl, ?_⟩
  have he' : e < s.heap.objs.size := Heap.lt_size he
  have hi' : it < s.heap.objs.size := by obtain ⟨o, q, _⟩ := hit; exact Heap.lt_size q
  refine wpAny_letOwnedTupleGo_enum (s := { s with heap := h1, toks := s.toks + 1 }) ho fun h2 hE sb => ?_
  have k2 : ∀ b o, b ≠ e → b ≠ it → s.heap.get? b = some o → h2.get? b = some o := fun b o n1 n2 q => sb.extBut b o n1 (k1 b o n1 n2 q)
  have ht2 : h2.get? s.heap.objs.size = some { cls := .type "tuple", data := .seq #[.int i s.toks, u] } := sb.extBut _ _ (Nat.ne_of_gt he') ht
  have hsz2 : h2.objs.size = s.heap.objs.size + 1 := by rw [sb.1]; exact hs
  have hHs : H s.heap.objs.size = none := I.hok.fresh (Nat.le_refl _)
  have nt : ∀ b o, H b = some o → b ≠ e ∧ b ≠ it := fun b o q => ⟨(fun z => by rw [z, f0] at q; cases q), (fun z => by rw [z, g0] at q; cases q)⟩
  have hok : HOk X.prog X.w (upd H s.heap.objs.size (.tup [.int i, x])) h2 := by
   have lift : ∀ b o, H b = some o → ObjOk X.prog X.w (upd H s.heap.objs.size (.tup [.int i, x])) h2 b o := fun b o q =>
    (I.hok b o q).stay (fun c v hcv r => k2 c v (by
     rcases hcv with z | z
     ·rw [z]; exact (nt b o q).1
     ·exact (nt c _ z).1) (by
     rcases hcv with z | z
     ·rw [z]; exact (nt b o q).2
     ·exact (nt c _ z).2) r) (fun c r => by rw [upd_ne (ne_of_none r hHs)]; exact r) fun c ys r => by rw [upd_ne (ne_of_none r hHs)]; exact r
   intro b o q
   by_cases eb : b = s.heap.objs.size
   ·subst eb
    rw [upd_same] at q
    cases q
    exact ⟨by show 2 ≤ sizeLine; decide, [.int i s.toks, u], .cons ⟨_, rfl⟩ (.cons ru .nil), ⟨_, ht2, rfl, _, rfl⟩⟩
   ·rw [upd_ne eb] at q
    exact lift b o q
  have I2 : Inv X pins σ (upd H s.heap.objs.size (.tup [.int i, x])) { s with heap := h2, toks := s.toks + 1 } := by
   refine I.step (g' := s.gens) (d' := s.drawn) (ch := [e, it]) (fun b hb => ?_) (fun b o hL hb hcb q n => ?_) (fun b o hL hb hcb q n => ?_) (fun b o hcb q n => ?_) (fun b o hcb q => ?_) (fun b ys q => by rw [upd_ne (ne_of_none q hHs)]; exact q) (fun b o u q => by rw [upd_ne (ne_of_none q hHs)]; exact q)
    (fun b ps q => ⟨#[], by rw [upd_ne (ne_of_none q hHs), q]; simp⟩) (fun m hm => ?_) hok I.bare
   ·rcases List.mem_cons.mp hb with rfl | hb
    ·exact ⟨f3, f1, f4, f5⟩
    ·obtain rfl : b = it := by simpa using hb
     exact ⟨g3, g1, g4, g5⟩
   ·simp only [List.mem_cons, List.not_mem_nil, or_false, not_or] at hcb
    exact k2 b o hcb.1 hcb.2 q
   ·simp only [List.mem_cons, List.not_mem_nil, or_false, not_or] at hcb
    exact ⟨o.slots, k2 b o hcb.1 hcb.2 q⟩
   ·rw [upd_ne (Nat.ne_of_lt (Heap.lt_size q))]; exact n
   ·simp only [List.mem_cons, List.not_mem_nil, or_false, not_or] at hcb
    exact ⟨o, k2 b o hcb.1 hcb.2 q⟩
   ·obtain ⟨o, es, ep, q, r⟩ := hm
    exact ⟨o, es, ep, k2 _ o (Ne.symm f1) (Ne.symm g1) q, r⟩
  refine ⟨.ref s.heap.objs.size, _, I2, rfl, ⟨_, x, hHs, rfl, rfl, fun ys hy => by rw [I.tuple_inj hy hq]; exact hx⟩, ⟨⟨_, by have := hE; rw [show ((i : Int) + 1) = ((i + 1 : Nat) : Int) by omega] at this; exact this⟩, ?_⟩, fun b hb => ?_⟩
  ·obtain ⟨o, q, r⟩ := hi
   exact ⟨o, sb.extBut _ _ (Ne.symm hne) q, r⟩
  ·rcases List.mem_cons.mp hb with rfl | hb
   ·rw [upd_ne (Nat.ne_of_lt he')]; exact f0
   ·obtain rfl : b = it := by simpa using hb
    rw [upd_ne (Nat.ne_of_lt hi')]; exact g0
 done := by
  intro X hP hw hK hc i pins s σ H E I hf st hg
  subst hP hw hK
  obtain ⟨xs, hq, hx⟩ := hg
  obtain ⟨⟨old, he⟩, hit⟩ := st
  obtain ⟨its, rv, p, hz⟩ := I.tuple hq
  obtain ⟨g0, g1, g2, g3, g4, g5⟩ := hf it (by simp)
  have hl := rv.length
  exact enumT_end (I.ok.hd hc) he hit (show s.heap.IsTuple a its.toArray from p) (by simp; omega) fun h' eb => ⟨rfl, I.turned (t' := s.toks) (fun b o hb q => eb b o hb q) g0 g1 g3 g4 g5⟩
 self := fun _ _ _ _ _ st h => by
  obtain ⟨⟨old, he⟩, _⟩ := st
  exact wpAny_pyIter_enum he h
section
variable {X : Cx}
noncomputable def iEnumT (K : PySem.W.Frag) (ta : TA) : TI := fun σ H R => ta σ H fun vs H1 => ∃ a, vs = [.ref a] ∧ (∃ xs, SqT K H1 a xs) ∧ R (Iet K a) H1
theorem pi_enumT {l : Expr} {ta : TA} {p pos tpos : Pos} {elts : List Expr} {x1} (hg : Gl X "enumerate") (hm : X.mg "enumerate" = none) (ha : PA X [l] ta) (hs : starEach [l] X.env = [(false, eval l X.env)] := by rfl) :
  PI X (.Tuple elts x1 tpos) (.Call (.Name "enumerate" p) [l] [] pos) (iEnumT X.K ta) := by
 intro pins s σ H R I h
 refine Call_ (ld_blt I hg hm (u := .type "enumerate") (by decide +kernel) (PyProof.Rows.callWith_type1 (thn (ha pos pins s σ H _ I h) fun us s1 hZ_ => ?_) hs rfl))
 obtain ⟨vs, H1, I1, r1, q1⟩ := hZ_
 obtain ⟨a, rfl, ⟨xs, hq⟩, q⟩ := q1
 obtain ⟨u, rfl, ru⟩ := vals1 r1
 cases ru
 obtain ⟨its, rv, pl, hz⟩ := I1.tuple hq
 refine call_enumT (show s1.heap.IsTuple a its.toArray from pl) fun h' he hit hsz hk => ?_
 refine wpAny_pyIter_enum he ?_
 have I2 : Inv X pins σ H1 { s1 with heap := h' } := I1.kept (t' := s1.toks) hk
 refine ⟨_, _, _, _, H1, rfl, I2, turn_enumT a (s1.heap.objs.size + 1) s1.heap.objs.size (Nat.succ_ne_self _), ⟨⟨_, he⟩, hit⟩, fun b hb => ?_, q⟩
 rcases List.mem_cons.mp hb with rfl | hb
 ·exact I1.fpOk (Nat.le_succ _) (I1.hok.fresh (Nat.le_succ _))
 ·obtain rfl : b = s1.heap.objs.size := by simpa using hb
  exact I1.fpOk (Nat.le_refl _) (I1.hok.fresh (Nat.le_refl _))
end
section
variable {X : Cx}
end
end L2
end
section
set_option Elab.async false
set_option linter.all false
set_option maxRecDepth 100000
namespace L2
open PySem PySem.Spec PyProof.Rows
section
variable {K : PySem.W.Frag} {g : TG} {tc : TT} {te : TE} {Q : VK} {D : Addr} {σ0 : St} {H0 : Hp}
end
section
variable {X : Cx} {K : PySem.W.Frag} {w : World} {pos : Pos}
variable {o e : Expr} {es : List Expr} {to : TE} {t : TA} {name : Str} {apos cpos : Pos} {Ty id : String} {r : V → List V → Hp → VK → Prop}
end
section
variable {P : Program} {w : World} {K : PySem.W.Frag} {mg : Str → Option Value} {base : Heap}
end
end L2
end
section
set_option Elab.async false
set_option linter.all false
set_option maxRecDepth 100000
namespace L2
open PySem PySem.Spec PyProof.Rows Builtin Builtin.Str
theorem join_cps (ys : List Str) : (Txt.join ⟨#[]⟩ ys).cps.toList = (ys.map fun y => y.cps.toList).flatten := by
 cases ys with
 | nil => rfl
 | cons y r =>
  show ((r.foldl (fun acc p => acc ++ #[] ++ p.cps) y.cps) : Array Nat).toList = _
  rw [List.map_cons, List.flatten_cons]
  generalize y.cps = acc
  induction r generalizing acc with
  | nil => simp
  | cons z r ih =>
   rw [List.foldl_cons, ih]
   simp
end L2
end
section
set_option Elab.async false
set_option linter.all false
set_option maxRecDepth 100000
namespace D
open PySem
inductive W where
 | non | bl (b : Bool) | int (i : Int) | str (x : Str) | tup (xs : List W) | fz (xs : List W) | obj (c : Str) (ks : List Str) (vs : List W) | ref (n : Nat)
 deriving Inhabited
inductive O where
 | lst (xs : List W) | ins (c : Str) (fs : List (Str × W)) | set (ks : List L2.Key)
abbrev Mem := List O
abbrev Loc := List (Option W)
inductive R (α : Type) where
 | no
 | ok (a : α) (m : Mem)
@[inline] noncomputable def R.bind {α β : Type} (x : R α) (f : α → Mem → R β) : R β := match x with
 | .no => .no
 | .ok a m => f a m
inductive B where
 | len | abs | max | min | divmod | all | any | list | tuple | int | sorted | sum | repr
 deriving DecidableEq
mutual
inductive T where
 | var (i : Nat) | tup (ts : Ts)
inductive Ts where
 | nil | cons (t : T) (ts : Ts)
end
mutual
inductive E where
 | var (i : Nat) | cst (w : W)
 | bin (op : Operator) (a b : E) | neg (a : E) | not (a : E) | and (a b : E) | or (a b : E)
 | cmp (op : CmpOp) (a b : E) | chain (o1 o2 : CmpOp) (a b c : E)
 | ife (t a b : E) | tup (es : Es) | lst (es : Es) | idx (a b : E)
 | slc (a : E) (lo hi : Oe)
 | call (f : Nat) (es : Es) | blt (b : B) (es : Es) | isI (a : E) (t : String)
 | meth (o : E) (m : String) (es : Es)
 | comp (g : G)
 | rng (a : E) | rng2 (a b : E) | enm (a : E) | zip (es : Es) | lrng (a : E)
 | frz (a : E) | fld (a : E) (f : Str) | make (c : Str) (es : Es) | mth (o : E) (m : Str) (es : Es) | set0 | sset (a : E)
inductive Es where
 | nil | cons (e : E) (es : Es)
inductive Oe where
 | none | some (e : E)
inductive G where
 | elt (e : E) | gen (t : T) (js : List Nat) (it : E) (ifs : Es) (rest : G)
end
mutual
inductive A where
 | pt (t : T) | sub (o i : E) | tup (l : As)
inductive As where
 | nil | cons (a : A) (l : As)
end
mutual
inductive S where
 | asg (t : A) (e : E) | aug (i : Nat) (op : Operator) (e : E) | expr (e : E) | ret (e : E) | retN
 | ife (t : E) (a b : Ss) | for_ (t : T) (it : E) (b : Ss) | while_ (t : E) (b : Ss) | pass | brk | cont | never
 | fas (o : E) (f : Str) (e : E)
inductive Ss where
 | nil | cons (s : S) (r : Ss)
end
noncomputable def lim : Nat := 1000000
noncomputable def new (o : O) (m : Mem) : R W := .ok (.ref m.length) (m ++ [o])
noncomputable def getL (m : Mem) : W → Option (List W)
 | .ref n => match m[n]? with
  | some (.lst xs) => some xs
  | _ => none
 | .fz xs => some xs
 | _ => none
noncomputable def getS (m : Mem) : W → Option (List W)
 | .tup xs => some xs
 | w => getL m w
noncomputable def allD {α : Type} (f : W → Option α) : List W → Option (List α)
 | [] => some []
 | x :: xs => match f x with
  | none => none
  | some d => match allD f xs with
   | none => none
   | some ds => some (d :: ds)
noncomputable def toD : Nat → Mem → W → Option PyData
 | 0, _, _ => none
 | n + 1, m, w => match w with
  | .non => some .none
  | .bl b => some (.bool b)
  | .int i => some (.int i)
  | .str x => if x.cps.all (· < 0x110000) then some (.str x) else none
  | .tup xs => (allD (toD n m) xs).map .tuple
  | .fz xs => (allD (toD n m) xs).map .list
  | .ref a => match getL m (.ref a) with
   | some xs => (allD (toD n m) xs).map .list
   | none => none
  | .obj _ _ _ => none
noncomputable def eqW (m : Mem) (x y : W) : R Bool := match toD 60 m x, toD 60 m y with
 | some d, some e => .ok (PyData.eqv d e) m
 | _, _ => .no
noncomputable def truthy (m : Mem) : W → R Bool
 | .non => .ok false m
 | .bl b => .ok b m
 | .int i => .ok (i != 0) m
 | .str x => if x.length ≤ lim then .ok ((x.length : Int) != 0) m else .no
 | .tup xs => .ok (!xs.isEmpty) m
 | .fz xs => .ok (!xs.isEmpty) m
 | .ref n => match getL m (.ref n) with
  | some xs => .ok (!xs.isEmpty) m
  | none => .no
 | .obj _ _ _ => .no
noncomputable def mulOk (i j : Int) : Bool := (decide (-(2 ^ 64) < i) && decide (i < 2 ^ 64)) || (decide (-(2 ^ 64) < j) && decide (j < 2 ^ 64))
noncomputable def catL (m : Mem) (x y : W) : R W := match getL m x, getL m y with
 | some xs, some ys => if xs.length + ys.length ≤ lim then new (.lst (xs ++ ys)) m else .no
 | _, _ => .no
noncomputable def repW (n : Nat) (xs : List W) : List W := (List.replicate n xs).flatten
noncomputable def binop (op : Operator) (x y : W) (m : Mem) : R W := match op with
 | .Add => match x, y with
  | .int i, .int j => .ok (.int (i + j)) m
  | .tup xs, .tup ys => if xs.length + ys.length ≤ lim then .ok (.tup (xs ++ ys)) m else .no
  | .str a, .str b => if a.length + b.length ≤ lim then .ok (.str (a ++ b)) m else .no
  | x, y => catL m x y
 | .Sub => match x, y with
  | .int i, .int j => .ok (.int (i - j)) m
  | _, _ => .no
 | .Mult => match x, y with
  | .int i, .int j => if mulOk i j then .ok (.int (i * j)) m else .no
  | _, _ => .no
 | .FloorDiv => match x, y with
  | .int i, .int j => if 0 < j ∧ j < 1073741824 then .ok (.int (i / j)) m else .no
  | _, _ => .no
 | .Mod => match x, y with
  | .int i, .int j => if 0 < j then .ok (.int (i % j)) m else .no
  | _, _ => .no
 | .Pow => match x, y with
  | .int i, .int j => if 0 ≤ j ∧ j ≤ 1000000 ∧ i.natAbs < 2 ^ 64 then .ok (.int (i ^ j.toNat)) m else .no
  | _, _ => .no
 | .LShift => match x, y with
  | .int i, .int j => if 0 ≤ j ∧ j ≤ 1000000 ∧ i.natAbs < 2 ^ 64 then .ok (.int (i * 2 ^ j.toNat)) m else .no
  | _, _ => .no
 | .RShift => match x, y with
  | .int i, .int j => if 0 ≤ j then .ok (.int (i / 2 ^ j.toNat)) m else .no
  | _, _ => .no
 | .BitAnd => match x, y with
  | .int i, .int j => .ok (.int (Builtin.bitAnd i j)) m
  | _, _ => .no
 | _ => .no
noncomputable def memW (m : Mem) (x : W) (ys : List W) : R Bool := match toD 60 m x, allD (toD 60 m) ys with
 | some d, some es => .ok (es.any fun e => PyData.eqv e d) m
 | _, _ => .no
noncomputable def memK (k : L2.Key) (ks : List L2.Key) : Bool := ks.any fun j => decide (j = k)
noncomputable def keyW : W → Option L2.Key
 | .int i => some (.inl i)
 | .str x => some (.inr x)
 | _ => none
noncomputable def inop (m : Mem) (x y : W) : R Bool := match y with
 | .str b => match x with
  | .str a => .ok (!(Builtin.Str.occurrences b a 0 b.length 1).isEmpty) m
  | _ => .no
 | .ref n => match m[n]? with
  | some (.lst ys) => memW m x ys
  | some (.set ks) => match keyW x with
   | some k => .ok (memK k ks) m
   | none => .no
  | _ => .no
 | .fz ys => memW m x ys
 | .tup ys => memW m x ys
 | _ => .no
noncomputable def isNon : W → Bool
 | .non => true
 | _ => false
noncomputable def intsW : List W → Option (List Int)
 | [] => some []
 | .int b :: r => (intsW r).map (b :: ·)
 | _ :: _ => none
noncomputable def cmpop (op : CmpOp) (x y : W) (m : Mem) : R Bool := match op with
 | .Eq => eqW m x y
 | .NotEq => (eqW m x y).bind fun b m => .ok (!b) m
 | .Lt => match x, y with
  | .int i, .int j => .ok (decide (i < j)) m
  | .str a, .str b => .ok (decide (a.cps.toList < b.cps.toList)) m
  | _, _ => .no
 | .LtE => match x, y with
  | .int i, .int j => .ok (decide (i ≤ j)) m
  | .str a, .str b => .ok (!decide (b.cps.toList < a.cps.toList)) m
  | _, _ => .no
 | .Gt => match x, y with | .int i, .int j => .ok (decide (j < i)) m | _, _ => .no
 | .GtE => match x, y with | .int i, .int j => .ok (decide (j ≤ i)) m | _, _ => .no
 | .In => inop m x y
 | .NotIn => match y with
  | .ref n => match m[n]? with
   | some (.lst ys) => (memW m x ys).bind fun b m => .ok (!b) m
   | _ => .no
  | .fz ys => (memW m x ys).bind fun b m => .ok (!b) m
  | .tup ys => (memW m x ys).bind fun b m => .ok (!b) m
  | _ => .no
 | .Is => match y with
  | .non => .ok (isNon x) m
  | _ => .no
 | .IsNot => match y with
  | .non => .ok (!isNon x) m
  | _ => .no
noncomputable def idxop (x y : W) (m : Mem) : R W := match y with
 | .int i => match x with
  | .str z => if z.length ≤ lim then match L2.atI z.cps.toList i with
   | some c => .ok (.str ⟨#[c]⟩) m
   | none => .no else .no
  | x => match getS m x with
   | some xs => match L2.atI xs i with
    | some w => .ok w m
    | none => .no
   | none => .no
 | _ => .no
noncomputable def cutW (xs : List W) (lo hi : Option Int) : List W := (xs.drop (HT.sIx xs.length 0 lo)).take (HT.sIx xs.length xs.length hi - HT.sIx xs.length 0 lo)
noncomputable def slcop (x : W) (lo hi : Option Int) (m : Mem) : R W := match x with
 | .str z => if z.length ≤ lim then .ok (.str (Txt.slice z lo hi)) m else .no
 | x => match getL m x with
  | some xs => new (.lst (cutW xs lo hi)) m
  | none => .no
noncomputable def setop (o i v : W) (m : Mem) : R Unit := match o, i with
 | .ref n, .int k => match m[n]? with
  | some (.lst xs) => match L2.ixN xs.length k with
   | some j => .ok () (m.set n (.lst (xs.set j v)))
   | none => .no
  | _ => .no
 | _, _ => .no
noncomputable def bools : List W → Option (List Bool)
 | [] => some []
 | .bl b :: r => (bools r).map (b :: ·)
 | _ :: _ => none
noncomputable def isTy (m : Mem) (t : String) : W → Option Bool
 | .non => some (t == "NoneType")
 | .bl _ => some (t == "bool" || t == "int")
 | .int _ => some (t == "int")
 | .str _ => some (t == "str")
 | .tup _ => some (t == "tuple")
 | .fz _ => some (t == "list")
 | .ref n => match m[n]? with
  | some (.lst _) => some (t == "list")
  | _ => none
 | .obj _ _ _ => none
noncomputable def strsW : List W → Option (List Str)
 | [] => some []
 | .str b :: r => (strsW r).map (b :: ·)
 | _ :: _ => none
noncomputable def bltop (b : B) (xs : List W) (m : Mem) : R W := match b with
 | .len => match xs with
  | [x] => match x with
   | .str z => if z.length ≤ lim then .ok (.int z.length) m else .no
   | x => match getS m x with
    | some ys => .ok (.int ys.length) m
    | none => .no
  | _ => .no
 | .abs => match xs with
  | [.int i] => .ok (.int (if i < 0 then -i else i)) m
  | _ => .no
 | .max => match xs with
  | [.int i, .int j] => .ok (.int (if j > i then j else i)) m
  | _ => .no
 | .min => match xs with
  | [.int i, .int j] => .ok (.int (if j < i then j else i)) m
  | _ => .no
 | .divmod => match xs with
  | [.int i, .int j] => if 0 < j ∧ j < 1073741824 then .ok (.tup [.int (i / j), .int (i % j)]) m else .no
  | _ => .no
 | .all => match xs with
  | [x] => match getL m x with
   | some ys => match bools ys with
    | some bs => .ok (.bl (bs.all id)) m
    | none => .no
   | none => .no
  | _ => .no
 | .any => match xs with
  | [x] => match getL m x with
   | some ys => match bools ys with
    | some bs => .ok (.bl (bs.any id)) m
    | none => .no
   | none => .no
  | _ => .no
 | .list => match xs with
  | [x] => match getS m x with
   | some ys => new (.lst ys) m
   | none => .no
  | _ => .no
 | .tuple => match xs with
  | [x] => match getS m x with
   | some ys => .ok (.tup ys) m
   | none => .no
  | _ => .no
 | .int => match xs with
  | [.int i] => .ok (.int i) m
  | [.bl b] => .ok (.int (if b then 1 else 0)) m
  | _ => .no
 | _ => .no
noncomputable def opAppend (n : Nat) (ys xs : List W) (m : Mem) : R W := match xs with
 | [x] => if ys.length < lim then .ok .non (m.set n (.lst (ys ++ [x]))) else .no
 | _ => .no
noncomputable def opClear (n : Nat) (xs : List W) (m : Mem) : R W := match xs with
 | [] => .ok .non (m.set n (.lst []))
 | _ => .no
noncomputable def opReverse (n : Nat) (ys xs : List W) (m : Mem) : R W := match xs with
 | [] => .ok .non (m.set n (.lst ys.reverse))
 | _ => .no
noncomputable def opPop (n : Nat) (ys xs : List W) (m : Mem) : R W := match xs with
 | [] => match ys[ys.length - 1]? with
  | some y => .ok y (m.set n (.lst ys.dropLast))
  | none => .no
 | [.int i] => if -(2 ^ 63) ≤ i ∧ i < 2 ^ 63 then match seqIndex? i ys.length with
  | some k => match ys[k]? with
   | some y => .ok y (m.set n (.lst (ys.eraseIdx k)))
   | none => .no
  | none => .no else .no
 | _ => .no
noncomputable def opExtend (n : Nat) (ys xs : List W) (m : Mem) : R W := match xs with
 | [.ref b] => match m[b]? with
  | some (.lst zs) => if ys.length + zs.length ≤ lim then .ok .non (m.set n (.lst (ys ++ zs))) else .no
  | _ => .no
 | _ => .no
noncomputable def opInsert (n : Nat) (ys xs : List W) (m : Mem) : R W := match xs with
 | [.int i, y] => if 0 ≤ i ∧ i ≤ ys.length ∧ ys.length < lim then .ok .non (m.set n (.lst (ys.take i.toNat ++ [y] ++ ys.drop i.toNat))) else .no
 | _ => .no
noncomputable def lstop (n : Nat) (ys : List W) (name : String) (xs : List W) (m : Mem) : R W :=
 if name = "append" then opAppend n ys xs m
 else if name = "clear" then opClear n xs m
 else if name = "reverse" then opReverse n ys xs m
 else if name = "pop" then opPop n ys xs m
 else if name = "extend" then opExtend n ys xs m
 else if name = "insert" then opInsert n ys xs m
 else .no
noncomputable def opJoin (z : Str) (xs : List W) (m : Mem) : R W := match xs with
 | [x] => match getL m x with
  | some ys => match strsW ys with
   | some ss => if (ss.map (·.length)).sum + ss.length * z.length ≤ 16777216 then .ok (.str (Txt.join z ss)) m else .no
   | none => .no
  | none => .no
 | _ => .no
noncomputable def opSIndex (z : Str) (xs : List W) (m : Mem) : R W := match xs with
 | [.str y] => match (Builtin.Str.occurrences z y 0 z.length 1).head? with
  | some p => .ok (.int (p : Nat)) m
  | none => .no
 | _ => .no
noncomputable def strop (z : Str) (name : String) (xs : List W) (m : Mem) : R W :=
 if name = "join" then opJoin z xs m
 else if name = "index" then opSIndex z xs m
 else .no
noncomputable def opAdd (n : Nat) (ks : List L2.Key) (xs : List W) (m : Mem) : R W := match xs with
 | [x] => match keyW x with
  | some k => if ks.length < 4000 then .ok .non (m.set n (.set (if memK k ks then ks else ks ++ [k]))) else .no
  | none => .no
 | _ => .no
noncomputable def setMeth (n : Nat) (ks : List L2.Key) (name : String) (xs : List W) (m : Mem) : R W :=
 if name = "add" then opAdd n ks xs m
 else .no
noncomputable def methop (o : W) (name : String) (xs : List W) (m : Mem) : R W := match o with
 | .ref n => match m[n]? with
  | some (.lst ys) => lstop n ys name xs m
  | some (.set ks) => setMeth n ks name xs m
  | _ => .no
 | .str z => strop z name xs m
 | _ => .no
inductive Kd where
 | lst | str | set | no
 deriving DecidableEq
noncomputable def kdOf (m : Mem) : W → Kd
 | .ref n => match m[n]? with
  | some (.lst _) => .lst
  | some (.set _) => .set
  | _ => .no
 | .str _ => .str
 | _ => .no
noncomputable def kdM (name : String) : Kd := if name = "join" ∨ name = "index" then .str else if name = "add" then .set else .lst
mutual
noncomputable def frW (g : Nat → Option W) : W → Option W
 | .tup xs => (frWs g xs).map .tup
 | .fz xs => (frWs g xs).map .fz
 | .obj c ks vs => (frWs g vs).map (.obj c ks)
 | .ref n => g n
 | .non => some .non
 | .bl b => some (.bl b)
 | .int i => some (.int i)
 | .str x => some (.str x)
noncomputable def frWs (g : Nat → Option W) : List W → Option (List W)
 | [] => some []
 | x :: r => match frW g x with
  | none => none
  | some y => match frWs g r with
   | none => none
   | some ys => some (y :: ys)
end
noncomputable def frG (m : Mem) (k : Nat) : Nat → Nat → Option W
 | 0, a => if a < k then some (.ref a) else none
 | n + 1, a => if a < k then some (.ref a) else match m[a]? with
  | some (.lst xs) => (frWs (frG m k n) xs).map .fz
  | some (.ins c fs) => (frWs (frG m k n) (fs.map (·.2))).map (.obj c (fs.map (·.1)))
  | _ => none
mutual
noncomputable def belW (k : Nat) : W → Bool
 | .tup xs => belWs k xs
 | .fz xs => belWs k xs
 | .obj _ _ vs => belWs k vs
 | .ref n => decide (n < k)
 | .non => true
 | .bl _ => true
 | .int _ => true
 | .str _ => true
noncomputable def belWs (k : Nat) : List W → Bool
 | [] => true
 | x :: r => belW k x && belWs k r
end
noncomputable def belO (k : Nat) : O → Bool
 | .lst xs => belWs k xs
 | .ins _ fs => belWs k (fs.map (·.2))
 | .set _ => true
noncomputable def belM (k : Nat) (m : Mem) : Bool := m.all (belO k)
noncomputable def frzR (m : Mem) (r : R W) : R W := match r with
 | .no => .no
 | .ok w m1 => if m.length ≤ m1.length ∧ belM m.length (m1.take m.length) = true then match frW (frG m1 m.length 8) w with
  | some w1 => .ok w1 (m1.take m.length)
  | none => .no else .no
noncomputable def clr : List Nat → Loc → Loc
 | [], ρ => ρ
 | j :: r, ρ => clr r (ρ.set j none)
mutual
noncomputable def bindT : T → W → Loc → Option Loc
 | .var i, w, ρ => some (ρ.set i (some w))
 | .tup ts, w, ρ => match w with
  | .tup xs => bindTs ts xs ρ
  | .fz xs => bindTs ts xs ρ
  | _ => none
noncomputable def bindTs : Ts → List W → Loc → Option Loc
 | .nil, xs, ρ => match xs with
  | [] => some ρ
  | _ :: _ => none
 | .cons t ts, xs, ρ => match xs with
  | [] => none
  | x :: xs => match bindT t x ρ with
   | some ρ => bindTs ts xs ρ
   | none => none
end
inductive Src where
 | lst (n : Nat) | tup (xs : List W) | rng (lo : Int) (k : Nat) | enm (s : Src) | zip (ss : List Src)
inductive Nx where
 | bad | fin | it (w : W)
inductive Nxs where
 | bad | fin | its (ws : List W)
mutual
noncomputable def Src.get : Src → Mem → Nat → Nx
 | .lst n, m, i => match getL m (.ref n) with
  | some xs => match xs[i]? with
   | some w => .it w
   | none => .fin
  | none => .bad
 | .tup xs, _, i => match xs[i]? with
  | some w => .it w
  | none => .fin
 | .rng lo k, _, i => if i < k then .it (.int (lo + i)) else .fin
 | .enm s, m, i => match s.get m i with
  | .it w => .it (.tup [.int i, w])
  | .fin => .fin
  | .bad => .bad
 | .zip ss, m, i => match Src.gets ss m i with
  | .its ws => .it (.tup ws)
  | .fin => .fin
  | .bad => .bad
noncomputable def Src.gets : List Src → Mem → Nat → Nxs
 | [], _, _ => .its []
 | s :: ss, m, i => match s.get m i, Src.gets ss m i with
  | .bad, _ => .bad
  | _, .bad => .bad
  | .it w, .its ws => .its (w :: ws)
  | _, _ => .fin
end
mutual
noncomputable def Src.len : Src → Mem → Nat
 | .lst n, m => match getL m (.ref n) with
  | some xs => xs.length
  | none => 0
 | .tup xs, _ => xs.length
 | .rng _ k, _ => k
 | .enm s, m => s.len m
 | .zip ss, m => Src.lens ss m
noncomputable def Src.lens : List Src → Mem → Nat
 | [], _ => 0
 | s :: ss, m => max (s.len m) (Src.lens ss m)
end
noncomputable def srcOf (m : Mem) : W → Option Src
 | .tup xs => some (.tup xs)
 | .fz xs => some (.tup xs)
 | .ref n => match getL m (.ref n) with
  | some _ => some (.lst n)
  | none => none
 | _ => none
noncomputable def srcsOf (m : Mem) : List W → Option (List Src)
 | [] => some []
 | w :: ws => match srcOf m w with
  | none => none
  | some s => match srcsOf m ws with
   | none => none
   | some ss => some (s :: ss)
noncomputable def signs (z : Str) : List W := z.cps.toList.map fun c => W.str ⟨#[c]⟩
noncomputable def srcT (m : Mem) : W → Option Src
 | .str z => if L2.asc z then some (.tup (signs z)) else none
 | w => srcOf m w
set_option genInjectivity false in
structure Cs where
 flds : List (Str × Str)
 mths : List ((Str × Str) × Nat)
 ini : List (Str × Nat)
set_option genInjectivity false in
structure Cx where
 call : Nat → List W → Mem → R W
 fuel : Nat
 cs : Cs
noncomputable def insOf (m : Mem) : W → Option (Str × List (Str × W))
 | .ref n => match m[n]? with
  | some (.ins c fs) => some (c, fs)
  | _ => none
 | .obj c ks vs => some (c, ks.zip vs)
 | _ => none
noncomputable def fldop (cs : Cs) (x : W) (f : Str) (m : Mem) : R W := match insOf m x with
 | some (c, fs) => if cs.flds.contains (c, f) then match fs.lookup f with
  | some w => .ok w m
  | none => .no else .no
 | none => .no
noncomputable def mthop (cs : Cs) (x : W) (f : Str) (m : Mem) : Option Nat := match insOf m x with
 | some (c, fs) => if (fs.lookup f).isNone then cs.mths.lookup (c, f) else none
 | none => none
noncomputable def putF (f : Str) (v : W) : List (Str × W) → List (Str × W)
 | [] => [(f, v)]
 | (g, x) :: r => if g = f then (g, v) :: r else (g, x) :: putF f v r
noncomputable def fasop (cs : Cs) (x : W) (f : Str) (v : W) (m : Mem) : R Unit := match x with
 | .ref n => match m[n]? with
  | some (.ins c fs) => if cs.flds.contains (c, f) ∧ fs.length < 1000 then .ok () (m.set n (.ins c (putF f v fs))) else .no
  | _ => .no
 | _ => .no
noncomputable def makeop (C : Cx) (c : Str) (ws : List W) (m : Mem) : R W := match C.cs.ini.lookup c with
 | some i => (C.call i (.ref m.length :: ws) (m ++ [.ins c []])).bind fun w m1 => match w with
  | .non => .ok (.ref m.length) m1
  | _ => .no
 | none => .no
inductive F where
 | nx (ρ : Loc) | rt (w : W) | bk (ρ : Loc) | ct (ρ : Loc)
noncomputable def forN (get : Mem → Nat → Nx) (t : T) (body : Loc → Mem → R F) : Nat → Nat → Loc → Mem → R F
 | k, i, ρ, m => match get m i with
  | .bad => .no
  | .fin => .ok (.nx ρ) m
  | .it x => match k with
   | 0 => .no
   | k + 1 => match bindT t x ρ with
    | none => .no
    | some ρ => (body ρ m).bind fun f m => match f with
     | .nx ρ => forN get t body k (i + 1) ρ m
     | .ct ρ => forN get t body k (i + 1) ρ m
     | .bk ρ => .ok (.nx ρ) m
     | .rt w => .ok (.rt w) m
noncomputable def whileN (c : Loc → Mem → R Bool) (body : Loc → Mem → R F) : Nat → Loc → Mem → R F
 | 0, _, _ => .no
 | k + 1, ρ, m => (c ρ m).bind fun b m => if b then (body ρ m).bind fun f m => match f with
   | .nx ρ => whileN c body k ρ m
   | .ct ρ => whileN c body k ρ m
   | .bk ρ => .ok (.nx ρ) m
   | .rt w => .ok (.rt w) m
  else .ok (.nx ρ) m
noncomputable def compN (get : Mem → Nat → Nx) (t : T) (test : Loc → Mem → R Bool) (body : Loc → Mem → List W → R (List W × Loc)) : Nat → Nat → Loc → Mem → List W → R (List W × Loc)
 | k, i, ρ, m, acc => match get m i with
  | .bad => .no
  | .fin => .ok (acc, ρ) m
  | .it x => match k with
   | 0 => .no
   | k + 1 => match bindT t x ρ with
    | none => .no
    | some ρ => (test ρ m).bind fun b m => if b then (body ρ m acc).bind fun p m => compN get t test body k (i + 1) p.2 m p.1 else compN get t test body k (i + 1) ρ m acc
noncomputable def toI (x : W) (m : Mem) : R Src := match srcT m x with
 | some s => .ok s m
 | none => .no
mutual
noncomputable def evE (C : Cx) : E → Loc → Mem → R W
 | .var i, ρ, m => match ρ[i]? with
  | some (some w) => .ok w m
  | _ => .no
 | .cst w, _, m => .ok w m
 | .bin op a b, ρ, m => (evE C a ρ m).bind fun x m => (evE C b ρ m).bind fun y m => binop op x y m
 | .neg a, ρ, m => (evE C a ρ m).bind fun x m => match x with
  | .int i => .ok (.int (-i)) m
  | _ => .no
 | .not a, ρ, m => (evE C a ρ m).bind fun x m => match x with
  | .bl b => .ok (.bl (!b)) m
  | _ => .no
 | .and a b, ρ, m => (evE C a ρ m).bind fun x m => match x with
  | .bl c => if c then evE C b ρ m else .ok (.bl false) m
  | _ => .no
 | .or a b, ρ, m => (evE C a ρ m).bind fun x m => match x with
  | .bl c => if c then .ok (.bl true) m else evE C b ρ m
  | _ => .no
 | .cmp op a b, ρ, m => (evE C a ρ m).bind fun x m => (evE C b ρ m).bind fun y m => (cmpop op x y m).bind fun c m => .ok (.bl c) m
 | .chain o1 o2 a b c, ρ, m => (evE C a ρ m).bind fun x m => (evE C b ρ m).bind fun y m => (cmpop o1 x y m).bind fun k m =>
   if k then (evE C c ρ m).bind fun z m => (cmpop o2 y z m).bind fun k m => .ok (.bl k) m else .ok (.bl false) m
 | .ife t a b, ρ, m => (evT C t ρ m).bind fun c m => if c then evE C a ρ m else evE C b ρ m
 | .tup es, ρ, m => (evEs C es ρ m).bind fun ws m => if ws.length ≤ lim then .ok (.tup ws) m else .no
 | .lst es, ρ, m => (evEs C es ρ m).bind fun ws m => if ws.length ≤ lim then new (.lst ws) m else .no
 | .idx a b, ρ, m => (evE C a ρ m).bind fun x m => (evE C b ρ m).bind fun y m => idxop x y m
 | .slc a lo hi, ρ, m => (evE C a ρ m).bind fun x m => (evO C lo ρ m).bind fun l m => (evO C hi ρ m).bind fun u m => slcop x l u m
 | .call f es, ρ, m => (evEs C es ρ m).bind fun ws m => C.call f ws m
 | .blt b es, ρ, m => (evEs C es ρ m).bind fun ws m => bltop b ws m
 | .isI a t, ρ, m => (evE C a ρ m).bind fun x m => match isTy m t x with
  | some b => .ok (.bl b) m
  | none => .no
 | .meth o name es, ρ, m => (evE C o ρ m).bind fun x m => if kdOf m x = kdM name then (evEs C es ρ m).bind fun ws m => methop x name ws m else .no
 | .comp g, ρ, m => (evG C g ρ m []).bind fun p m => new (.lst p.1) m
 | .lrng a, ρ, m => (evE C a ρ m).bind fun x m => match x with
  | .int j => if 0 ≤ j ∧ j ≤ 1000000 then new (.lst ((List.range j.toNat).map fun i => W.int (i : Nat))) m else .no
  | _ => .no
 | .frz a, ρ, m => frzR m (evE C a ρ m)
 | .fld a f, ρ, m => (evE C a ρ m).bind fun x m => fldop C.cs x f m
 | .make c es, ρ, m => (evEs C es ρ m).bind fun ws m => makeop C c ws m
 | .mth o f es, ρ, m => (evE C o ρ m).bind fun x m => match mthop C.cs x f m with
  | some i => (evEs C es ρ m).bind fun ws m => C.call i (x :: ws) m
  | none => .no
 | .set0, _, m => new (.set []) m
 | .sset a, ρ, m => .no
 | .rng _, _, _ => .no
 | .rng2 _ _, _, _ => .no
 | .enm _, _, _ => .no
 | .zip _, _, _ => .no
noncomputable def evEs (C : Cx) : Es → Loc → Mem → R (List W)
 | .nil, _, m => .ok [] m
 | .cons e es, ρ, m => (evE C e ρ m).bind fun w m => (evEs C es ρ m).bind fun ws m => .ok (w :: ws) m
noncomputable def evO (C : Cx) : Oe → Loc → Mem → R (Option Int)
 | .none, _, m => .ok none m
 | .some e, ρ, m => (evE C e ρ m).bind fun w m => match w with
  | .int i => .ok (some i) m
  | _ => .no
noncomputable def evT (C : Cx) : E → Loc → Mem → R Bool
 | .and a b, ρ, m => (evT C a ρ m).bind fun c m => if c then evT C b ρ m else .ok false m
 | .or a b, ρ, m => (evT C a ρ m).bind fun c m => if c then .ok true m else evT C b ρ m
 | .not a, ρ, m => (evT C a ρ m).bind fun c m => .ok (!c) m
 | .cmp op a b, ρ, m => (evE C a ρ m).bind fun x m => (evE C b ρ m).bind fun y m => cmpop op x y m
 | .chain o1 o2 a b c, ρ, m => (evE C a ρ m).bind fun x m => (evE C b ρ m).bind fun y m => (cmpop o1 x y m).bind fun k m =>
   if k then (evE C c ρ m).bind fun z m => cmpop o2 y z m else .ok false m
 | .ife t a b, ρ, m => (evT C t ρ m).bind fun c m => if c then evT C a ρ m else evT C b ρ m
 | .var i, ρ, m => R.bind (match ρ[i]? with
   | some (some w) => .ok w m
   | _ => .no) fun w m => truthy m w
 | .cst w, _, m => R.bind (.ok w m) fun w m => truthy m w
 | .bin op a b, ρ, m => R.bind ((evE C a ρ m).bind fun x m => (evE C b ρ m).bind fun y m => binop op x y m) fun w m => truthy m w
 | .neg a, ρ, m => R.bind ((evE C a ρ m).bind fun x m => match x with
   | .int i => .ok (.int (-i)) m
   | _ => .no) fun w m => truthy m w
 | .tup es, ρ, m => R.bind ((evEs C es ρ m).bind fun ws m => if ws.length ≤ lim then .ok (.tup ws) m else .no) fun w m => truthy m w
 | .lst es, ρ, m => R.bind ((evEs C es ρ m).bind fun ws m => if ws.length ≤ lim then new (.lst ws) m else .no) fun w m => truthy m w
 | .idx a b, ρ, m => R.bind ((evE C a ρ m).bind fun x m => (evE C b ρ m).bind fun y m => idxop x y m) fun w m => truthy m w
 | .slc a lo hi, ρ, m => R.bind ((evE C a ρ m).bind fun x m => (evO C lo ρ m).bind fun l m => (evO C hi ρ m).bind fun u m => slcop x l u m) fun w m => truthy m w
 | .call f es, ρ, m => R.bind ((evEs C es ρ m).bind fun ws m => C.call f ws m) fun w m => truthy m w
 | .blt b es, ρ, m => R.bind ((evEs C es ρ m).bind fun ws m => bltop b ws m) fun w m => truthy m w
 | .isI a t, ρ, m => R.bind ((evE C a ρ m).bind fun x m => match isTy m t x with
   | some b => .ok (.bl b) m
   | none => .no) fun w m => truthy m w
 | .meth o name es, ρ, m => R.bind ((evE C o ρ m).bind fun x m => if kdOf m x = kdM name then (evEs C es ρ m).bind fun ws m => methop x name ws m else .no) fun w m => truthy m w
 | .comp g, ρ, m => R.bind ((evG C g ρ m []).bind fun p m => new (.lst p.1) m) fun w m => truthy m w
 | .lrng a, ρ, m => R.bind ((evE C a ρ m).bind fun x m => match x with
   | .int j => if 0 ≤ j ∧ j ≤ 1000000 then new (.lst ((List.range j.toNat).map fun i => W.int (i : Nat))) m else .no
   | _ => .no) fun w m => truthy m w
 | .frz a, ρ, m => R.bind (frzR m (evE C a ρ m)) fun w m => truthy m w
 | .fld a f, ρ, m => R.bind ((evE C a ρ m).bind fun x m => fldop C.cs x f m) fun w m => truthy m w
 | .make c es, ρ, m => R.bind ((evEs C es ρ m).bind fun ws m => makeop C c ws m) fun w m => truthy m w
 | .mth o f es, ρ, m => R.bind ((evE C o ρ m).bind fun x m => match mthop C.cs x f m with
   | some i => (evEs C es ρ m).bind fun ws m => C.call i (x :: ws) m
   | none => .no) fun w m => truthy m w
 | .set0, _, m => R.bind (new (.set []) m) fun w m => truthy m w
 | .sset a, ρ, m => R.bind (.no) fun w m => truthy m w
 | .rng _, _, _ => R.bind (.no) fun w m => truthy m w
 | .rng2 _ _, _, _ => R.bind (.no) fun w m => truthy m w
 | .enm _, _, _ => R.bind (.no) fun w m => truthy m w
 | .zip _, _, _ => R.bind (.no) fun w m => truthy m w
noncomputable def evI (C : Cx) : E → Loc → Mem → R Src
 | .rng a, ρ, m => (evE C a ρ m).bind fun x m => match x with
  | .int j => if -(2 ^ 62) ≤ j ∧ j < 2 ^ 62 then .ok (.rng 0 j.toNat) m else .no
  | _ => .no
 | .rng2 a b, ρ, m => (evE C a ρ m).bind fun x m => (evE C b ρ m).bind fun y m => match x, y with
  | .int i, .int j => if -(2 ^ 62) ≤ i ∧ i < 2 ^ 62 ∧ -(2 ^ 62) ≤ j ∧ j < 2 ^ 62 then .ok (.rng i (j - i).toNat) m else .no
  | _, _ => .no
 | .enm a, ρ, m => (evE C a ρ m).bind fun x m => match srcOf m x with
  | some s => .ok (.enm s) m
  | none => .no
 | .zip es, ρ, m => (evEs C es ρ m).bind fun xs m => match srcsOf m xs with
  | some ss => .ok (.zip ss) m
  | none => .no
 | .var i, ρ, m => R.bind (match ρ[i]? with
   | some (some w) => .ok w m
   | _ => .no) toI
 | .cst w, _, m => R.bind (.ok w m) toI
 | .bin op a b, ρ, m => R.bind ((evE C a ρ m).bind fun x m => (evE C b ρ m).bind fun y m => binop op x y m) toI
 | .neg a, ρ, m => R.bind ((evE C a ρ m).bind fun x m => match x with
   | .int i => .ok (.int (-i)) m
   | _ => .no) toI
 | .not a, ρ, m => R.bind ((evE C a ρ m).bind fun x m => match x with
   | .bl b => .ok (.bl (!b)) m
   | _ => .no) toI
 | .and a b, ρ, m => R.bind ((evE C a ρ m).bind fun x m => match x with
   | .bl c => if c then evE C b ρ m else .ok (.bl false) m
   | _ => .no) toI
 | .or a b, ρ, m => R.bind ((evE C a ρ m).bind fun x m => match x with
   | .bl c => if c then .ok (.bl true) m else evE C b ρ m
   | _ => .no) toI
 | .cmp op a b, ρ, m => R.bind ((evE C a ρ m).bind fun x m => (evE C b ρ m).bind fun y m => (cmpop op x y m).bind fun c m => .ok (.bl c) m) toI
 | .chain o1 o2 a b c, ρ, m => R.bind ((evE C a ρ m).bind fun x m => (evE C b ρ m).bind fun y m => (cmpop o1 x y m).bind fun k m =>
    if k then (evE C c ρ m).bind fun z m => (cmpop o2 y z m).bind fun k m => .ok (.bl k) m else .ok (.bl false) m) toI
 | .ife t a b, ρ, m => R.bind ((evT C t ρ m).bind fun c m => if c then evE C a ρ m else evE C b ρ m) toI
 | .tup es, ρ, m => R.bind ((evEs C es ρ m).bind fun ws m => if ws.length ≤ lim then .ok (.tup ws) m else .no) toI
 | .lst es, ρ, m => R.bind ((evEs C es ρ m).bind fun ws m => if ws.length ≤ lim then new (.lst ws) m else .no) toI
 | .idx a b, ρ, m => R.bind ((evE C a ρ m).bind fun x m => (evE C b ρ m).bind fun y m => idxop x y m) toI
 | .slc a lo hi, ρ, m => R.bind ((evE C a ρ m).bind fun x m => (evO C lo ρ m).bind fun l m => (evO C hi ρ m).bind fun u m => slcop x l u m) toI
 | .call f es, ρ, m => R.bind ((evEs C es ρ m).bind fun ws m => C.call f ws m) toI
 | .blt b es, ρ, m => R.bind ((evEs C es ρ m).bind fun ws m => bltop b ws m) toI
 | .isI a t, ρ, m => R.bind ((evE C a ρ m).bind fun x m => match isTy m t x with
   | some b => .ok (.bl b) m
   | none => .no) toI
 | .meth o name es, ρ, m => R.bind ((evE C o ρ m).bind fun x m => if kdOf m x = kdM name then (evEs C es ρ m).bind fun ws m => methop x name ws m else .no) toI
 | .comp g, ρ, m => R.bind ((evG C g ρ m []).bind fun p m => new (.lst p.1) m) toI
 | .lrng a, ρ, m => R.bind ((evE C a ρ m).bind fun x m => match x with
   | .int j => if 0 ≤ j ∧ j ≤ 1000000 then new (.lst ((List.range j.toNat).map fun i => W.int (i : Nat))) m else .no
   | _ => .no) toI
 | .frz a, ρ, m => R.bind (frzR m (evE C a ρ m)) toI
 | .fld a f, ρ, m => R.bind ((evE C a ρ m).bind fun x m => fldop C.cs x f m) toI
 | .make c es, ρ, m => R.bind ((evEs C es ρ m).bind fun ws m => makeop C c ws m) toI
 | .mth o f es, ρ, m => R.bind ((evE C o ρ m).bind fun x m => match mthop C.cs x f m with
   | some i => (evEs C es ρ m).bind fun ws m => C.call i (x :: ws) m
   | none => .no) toI
 | .set0, _, m => R.bind (new (.set []) m) toI
 | .sset a, ρ, m => R.bind (.no) toI
noncomputable def evG (C : Cx) : G → Loc → Mem → List W → R (List W × Loc)
 | .elt e, ρ, m, acc => (evE C e ρ m).bind fun w m => if acc.length < lim then .ok (acc ++ [w], ρ) m else .no
 | .gen t js it ifs rest, ρ, m, acc => (evI C it ρ m).bind fun s m => compN s.get t (fun ρ m => evIfs C ifs ρ m) (fun ρ m acc => evG C rest ρ m acc) (s.len m) 0 (clr js ρ) m acc
noncomputable def evIfs (C : Cx) : Es → Loc → Mem → R Bool
 | .nil, _, m => .ok true m
 | .cons e es, ρ, m => (evT C e ρ m).bind fun b m => if b then evIfs C es ρ m else .ok false m
end
mutual
noncomputable def evA (C : Cx) : A → W → Loc → Mem → R Loc
 | .pt t, w, ρ, m => match bindT t w ρ with
  | some ρ => .ok ρ m
  | none => .no
 | .sub o i, w, ρ, m => (evE C o ρ m).bind fun x m => (evE C i ρ m).bind fun y m => (setop x y w m).bind fun _ m => .ok ρ m
 | .tup l, w, ρ, m => match getS m w with
  | some xs => evAs C l xs ρ m
  | none => .no
noncomputable def evAs (C : Cx) : As → List W → Loc → Mem → R Loc
 | .nil, xs, ρ, m => match xs with
  | [] => .ok ρ m
  | _ :: _ => .no
 | .cons a l, xs, ρ, m => match xs with
  | [] => .no
  | x :: xs => (evA C a x ρ m).bind fun ρ m => evAs C l xs ρ m
end
noncomputable def augop (op : Operator) (x y : W) (m : Mem) : R W := match op with
 | .Add => match x, y with
  | .int a, .int b => .ok (.int (a + b)) m
  | _, _ => .no
 | .Sub => match x, y with
  | .int a, .int b => .ok (.int (a - b)) m
  | _, _ => .no
 | _ => .no
mutual
noncomputable def evS (C : Cx) : S → Loc → Mem → R F
 | .asg t e, ρ, m => (evE C e ρ m).bind fun w m => (evA C t w ρ m).bind fun ρ m => .ok (.nx ρ) m
 | .aug i op e, ρ, m => match ρ[i]? with
  | some (some x) => (evE C e ρ m).bind fun y m => (augop op x y m).bind fun z m => .ok (.nx (ρ.set i (some z))) m
  | _ => .no
 | .expr e, ρ, m => (evE C e ρ m).bind fun _ m => .ok (.nx ρ) m
 | .ret e, ρ, m => (evE C e ρ m).bind fun w m => .ok (.rt w) m
 | .retN, _, m => .ok (.rt .non) m
 | .ife t a b, ρ, m => (evT C t ρ m).bind fun c m => if c then evSs C a ρ m else evSs C b ρ m
 | .for_ t it b, ρ, m => (evI C it ρ m).bind fun s m => forN s.get t (fun ρ m => evSs C b ρ m) (s.len m) 0 ρ m
 | .while_ t b, ρ, m => whileN (fun ρ m => evT C t ρ m) (fun ρ m => evSs C b ρ m) C.fuel ρ m
 | .pass, ρ, m => .ok (.nx ρ) m
 | .brk, ρ, m => .ok (.bk ρ) m
 | .cont, ρ, m => .ok (.ct ρ) m
 | .never, _, _ => .no
 | .fas o f e, ρ, m => (evE C e ρ m).bind fun w m => (evE C o ρ m).bind fun x m => (fasop C.cs x f w m).bind fun _ m => .ok (.nx ρ) m
noncomputable def evSs (C : Cx) : Ss → Loc → Mem → R F
 | .nil, ρ, m => .ok (.nx ρ) m
 | .cons s r, ρ, m => (evS C s ρ m).bind fun f m => match f with
  | .nx ρ => evSs C r ρ m
  | f => .ok f m
end
set_option genInjectivity false in
structure Fn where
 np : Nat
 nl : Nat
 body : Ss
noncomputable def startL (n : Nat) (ws : List W) : Loc := ws.map some ++ List.replicate (n - ws.length) none
noncomputable def outF : F → Mem → R W
 | .nx _, m => .ok .non m
 | .rt w, m => .ok w m
 | _, _ => .no
end D
end
section
set_option Elab.async false
set_option linter.all false
set_option maxRecDepth 100000
set_option autoImplicit false
namespace D
open PySem
theorem sE_var {C : Cx} : ∀ i ρ m, evE C (.var i) ρ m = (match ρ[i]? with
    | some (some w) => .ok w m
    | _ => .no) := by intros; rfl
theorem sE_cst {C : Cx} : ∀ w v1_ m, evE C (.cst w) v1_ m = (.ok w m) := by intros; rfl
theorem sE_bin {C : Cx} : ∀ op a b ρ m, evE C (.bin op a b) ρ m = ((evE C a ρ m).bind fun x m => (evE C b ρ m).bind fun y m => binop op x y m) := by intros; rfl
theorem sE_neg {C : Cx} : ∀ a ρ m, evE C (.neg a) ρ m = ((evE C a ρ m).bind fun x m => match x with
    | .int i => .ok (.int (-i)) m
    | _ => .no) := by intros; rfl
theorem sE_not {C : Cx} : ∀ a ρ m, evE C (.not a) ρ m = ((evE C a ρ m).bind fun x m => match x with
    | .bl b => .ok (.bl (!b)) m
    | _ => .no) := by intros; rfl
theorem sE_and {C : Cx} : ∀ a b ρ m, evE C (.and a b) ρ m = ((evE C a ρ m).bind fun x m => match x with
    | .bl c => if c then evE C b ρ m else .ok (.bl false) m
    | _ => .no) := by intros; rfl
theorem sE_or {C : Cx} : ∀ a b ρ m, evE C (.or a b) ρ m = ((evE C a ρ m).bind fun x m => match x with
    | .bl c => if c then .ok (.bl true) m else evE C b ρ m
    | _ => .no) := by intros; rfl
theorem sE_cmp {C : Cx} : ∀ op a b ρ m, evE C (.cmp op a b) ρ m = ((evE C a ρ m).bind fun x m => (evE C b ρ m).bind fun y m => (cmpop op x y m).bind fun c m => .ok (.bl c) m) := by intros; rfl
theorem sE_chain {C : Cx} : ∀ o1 o2 a b c ρ m, evE C (.chain o1 o2 a b c) ρ m = ((evE C a ρ m).bind fun x m => (evE C b ρ m).bind fun y m => (cmpop o1 x y m).bind fun k m =>
      if k then (evE C c ρ m).bind fun z m => (cmpop o2 y z m).bind fun k m => .ok (.bl k) m else .ok (.bl false) m) := by intros; rfl
theorem sE_ife {C : Cx} : ∀ t a b ρ m, evE C (.ife t a b) ρ m = ((evT C t ρ m).bind fun c m => if c then evE C a ρ m else evE C b ρ m) := by intros; rfl
theorem sE_tup {C : Cx} : ∀ es ρ m, evE C (.tup es) ρ m = ((evEs C es ρ m).bind fun ws m => if ws.length ≤ lim then .ok (.tup ws) m else .no) := by intros; rfl
theorem sE_lst {C : Cx} : ∀ es ρ m, evE C (.lst es) ρ m = ((evEs C es ρ m).bind fun ws m => if ws.length ≤ lim then new (.lst ws) m else .no) := by intros; rfl
theorem sE_idx {C : Cx} : ∀ a b ρ m, evE C (.idx a b) ρ m = ((evE C a ρ m).bind fun x m => (evE C b ρ m).bind fun y m => idxop x y m) := by intros; rfl
theorem sE_slc {C : Cx} : ∀ a lo hi ρ m, evE C (.slc a lo hi) ρ m = ((evE C a ρ m).bind fun x m => (evO C lo ρ m).bind fun l m => (evO C hi ρ m).bind fun u m => slcop x l u m) := by intros; rfl
theorem sE_call {C : Cx} : ∀ f es ρ m, evE C (.call f es) ρ m = ((evEs C es ρ m).bind fun ws m => C.call f ws m) := by intros; rfl
theorem sE_blt {C : Cx} : ∀ b es ρ m, evE C (.blt b es) ρ m = ((evEs C es ρ m).bind fun ws m => bltop b ws m) := by intros; rfl
theorem sE_isI {C : Cx} : ∀ a t ρ m, evE C (.isI a t) ρ m = ((evE C a ρ m).bind fun x m => match isTy m t x with
    | some b => .ok (.bl b) m
    | none => .no) := by intros; rfl
theorem sE_meth {C : Cx} : ∀ o name es ρ m, evE C (.meth o name es) ρ m = ((evE C o ρ m).bind fun x m => if kdOf m x = kdM name then (evEs C es ρ m).bind fun ws m => methop x name ws m else .no) := by intros; rfl
theorem sE_comp {C : Cx} : ∀ g ρ m, evE C (.comp g) ρ m = ((evG C g ρ m []).bind fun p m => new (.lst p.1) m) := by intros; rfl
theorem sE_lrng {C : Cx} : ∀ a ρ m, evE C (.lrng a) ρ m = ((evE C a ρ m).bind fun x m => match x with
    | .int j => if 0 ≤ j ∧ j ≤ 1000000 then new (.lst ((List.range j.toNat).map fun i => W.int (i : Nat))) m else .no
    | _ => .no) := by intros; rfl
theorem sE_frz {C : Cx} : ∀ a ρ m, evE C (.frz a) ρ m = (frzR m (evE C a ρ m)) := by intros; rfl
theorem sE_fld {C : Cx} : ∀ a f ρ m, evE C (.fld a f) ρ m = ((evE C a ρ m).bind fun x m => fldop C.cs x f m) := by intros; rfl
theorem sE_make {C : Cx} : ∀ c es ρ m, evE C (.make c es) ρ m = ((evEs C es ρ m).bind fun ws m => makeop C c ws m) := by intros; rfl
theorem sE_mth {C : Cx} : ∀ o f es ρ m, evE C (.mth o f es) ρ m = ((evE C o ρ m).bind fun x m => match mthop C.cs x f m with
    | some i => (evEs C es ρ m).bind fun ws m => C.call i (x :: ws) m
    | none => .no) := by intros; rfl
theorem sE_set0 {C : Cx} : ∀ v1_ m, evE C (.set0) v1_ m = (new (.set []) m) := by intros; rfl
theorem sE_sset {C : Cx} : ∀ a ρ m, evE C (.sset a) ρ m = (.no) := by intros; rfl
theorem sEs_nil {C : Cx} : ∀ v1_ m, evEs C (.nil) v1_ m = (.ok [] m) := by intros; rfl
theorem sEs_cons {C : Cx} : ∀ e es ρ m, evEs C (.cons e es) ρ m = ((evE C e ρ m).bind fun w m => (evEs C es ρ m).bind fun ws m => .ok (w :: ws) m) := by intros; rfl
theorem sO_none {C : Cx} : ∀ v1_ m, evO C (.none) v1_ m = (.ok none m) := by intros; rfl
theorem sO_some {C : Cx} : ∀ e ρ m, evO C (.some e) ρ m = ((evE C e ρ m).bind fun w m => match w with
    | .int i => .ok (some i) m
    | _ => .no) := by intros; rfl
theorem sT_and {C : Cx} : ∀ a b ρ m, evT C (.and a b) ρ m = ((evT C a ρ m).bind fun c m => if c then evT C b ρ m else .ok false m) := by intros; rfl
theorem sT_or {C : Cx} : ∀ a b ρ m, evT C (.or a b) ρ m = ((evT C a ρ m).bind fun c m => if c then .ok true m else evT C b ρ m) := by intros; rfl
theorem sT_not {C : Cx} : ∀ a ρ m, evT C (.not a) ρ m = ((evT C a ρ m).bind fun c m => .ok (!c) m) := by intros; rfl
theorem sT_cmp {C : Cx} : ∀ op a b ρ m, evT C (.cmp op a b) ρ m = ((evE C a ρ m).bind fun x m => (evE C b ρ m).bind fun y m => cmpop op x y m) := by intros; rfl
theorem sT_chain {C : Cx} : ∀ o1 o2 a b c ρ m, evT C (.chain o1 o2 a b c) ρ m = ((evE C a ρ m).bind fun x m => (evE C b ρ m).bind fun y m => (cmpop o1 x y m).bind fun k m =>
      if k then (evE C c ρ m).bind fun z m => cmpop o2 y z m else .ok false m) := by intros; rfl
theorem sT_ife {C : Cx} : ∀ t a b ρ m, evT C (.ife t a b) ρ m = ((evT C t ρ m).bind fun c m => if c then evT C a ρ m else evT C b ρ m) := by intros; rfl
theorem sT_var {C : Cx} : ∀ i ρ m, evT C (.var i) ρ m = (R.bind (match ρ[i]? with
      | some (some w) => .ok w m
      | _ => .no) fun w m => truthy m w) := by intros; rfl
theorem sT_cst {C : Cx} : ∀ w v1_ m, evT C (.cst w) v1_ m = (R.bind (.ok w m) fun w m => truthy m w) := by intros; rfl
theorem sT_bin {C : Cx} : ∀ op a b ρ m, evT C (.bin op a b) ρ m = (R.bind ((evE C a ρ m).bind fun x m => (evE C b ρ m).bind fun y m => binop op x y m) fun w m => truthy m w) := by intros; rfl
theorem sT_neg {C : Cx} : ∀ a ρ m, evT C (.neg a) ρ m = (R.bind ((evE C a ρ m).bind fun x m => match x with
      | .int i => .ok (.int (-i)) m
      | _ => .no) fun w m => truthy m w) := by intros; rfl
theorem sT_tup {C : Cx} : ∀ es ρ m, evT C (.tup es) ρ m = (R.bind ((evEs C es ρ m).bind fun ws m => if ws.length ≤ lim then .ok (.tup ws) m else .no) fun w m => truthy m w) := by intros; rfl
theorem sT_lst {C : Cx} : ∀ es ρ m, evT C (.lst es) ρ m = (R.bind ((evEs C es ρ m).bind fun ws m => if ws.length ≤ lim then new (.lst ws) m else .no) fun w m => truthy m w) := by intros; rfl
theorem sT_idx {C : Cx} : ∀ a b ρ m, evT C (.idx a b) ρ m = (R.bind ((evE C a ρ m).bind fun x m => (evE C b ρ m).bind fun y m => idxop x y m) fun w m => truthy m w) := by intros; rfl
theorem sT_slc {C : Cx} : ∀ a lo hi ρ m, evT C (.slc a lo hi) ρ m = (R.bind ((evE C a ρ m).bind fun x m => (evO C lo ρ m).bind fun l m => (evO C hi ρ m).bind fun u m => slcop x l u m) fun w m => truthy m w) := by intros; rfl
theorem sT_call {C : Cx} : ∀ f es ρ m, evT C (.call f es) ρ m = (R.bind ((evEs C es ρ m).bind fun ws m => C.call f ws m) fun w m => truthy m w) := by intros; rfl
theorem sT_blt {C : Cx} : ∀ b es ρ m, evT C (.blt b es) ρ m = (R.bind ((evEs C es ρ m).bind fun ws m => bltop b ws m) fun w m => truthy m w) := by intros; rfl
theorem sT_isI {C : Cx} : ∀ a t ρ m, evT C (.isI a t) ρ m = (R.bind ((evE C a ρ m).bind fun x m => match isTy m t x with
      | some b => .ok (.bl b) m
      | none => .no) fun w m => truthy m w) := by intros; rfl
theorem sT_meth {C : Cx} : ∀ o name es ρ m, evT C (.meth o name es) ρ m = (R.bind ((evE C o ρ m).bind fun x m => if kdOf m x = kdM name then (evEs C es ρ m).bind fun ws m => methop x name ws m else .no) fun w m => truthy m w) := by intros; rfl
theorem sT_comp {C : Cx} : ∀ g ρ m, evT C (.comp g) ρ m = (R.bind ((evG C g ρ m []).bind fun p m => new (.lst p.1) m) fun w m => truthy m w) := by intros; rfl
theorem sT_frz {C : Cx} : ∀ a ρ m, evT C (.frz a) ρ m = (R.bind (frzR m (evE C a ρ m)) fun w m => truthy m w) := by intros; rfl
theorem sT_fld {C : Cx} : ∀ a f ρ m, evT C (.fld a f) ρ m = (R.bind ((evE C a ρ m).bind fun x m => fldop C.cs x f m) fun w m => truthy m w) := by intros; rfl
theorem sT_make {C : Cx} : ∀ c es ρ m, evT C (.make c es) ρ m = (R.bind ((evEs C es ρ m).bind fun ws m => makeop C c ws m) fun w m => truthy m w) := by intros; rfl
theorem sT_mth {C : Cx} : ∀ o f es ρ m, evT C (.mth o f es) ρ m = (R.bind ((evE C o ρ m).bind fun x m => match mthop C.cs x f m with
      | some i => (evEs C es ρ m).bind fun ws m => C.call i (x :: ws) m
      | none => .no) fun w m => truthy m w) := by intros; rfl
theorem sT_set0 {C : Cx} : ∀ v1_ m, evT C (.set0) v1_ m = (R.bind (new (.set []) m) fun w m => truthy m w) := by intros; rfl
theorem sI_rng {C : Cx} : ∀ a ρ m, evI C (.rng a) ρ m = ((evE C a ρ m).bind fun x m => match x with
    | .int j => if -(2 ^ 62) ≤ j ∧ j < 2 ^ 62 then .ok (.rng 0 j.toNat) m else .no
    | _ => .no) := by intros; rfl
theorem sI_enm {C : Cx} : ∀ a ρ m, evI C (.enm a) ρ m = ((evE C a ρ m).bind fun x m => match srcOf m x with
    | some s => .ok (.enm s) m
    | none => .no) := by intros; rfl
theorem sI_var {C : Cx} : ∀ i ρ m, evI C (.var i) ρ m = (R.bind (match ρ[i]? with
      | some (some w) => .ok w m
      | _ => .no) toI) := by intros; rfl
theorem sI_cst {C : Cx} : ∀ w v1_ m, evI C (.cst w) v1_ m = (R.bind (.ok w m) toI) := by intros; rfl
theorem sI_bin {C : Cx} : ∀ op a b ρ m, evI C (.bin op a b) ρ m = (R.bind ((evE C a ρ m).bind fun x m => (evE C b ρ m).bind fun y m => binop op x y m) toI) := by intros; rfl
theorem sI_neg {C : Cx} : ∀ a ρ m, evI C (.neg a) ρ m = (R.bind ((evE C a ρ m).bind fun x m => match x with
      | .int i => .ok (.int (-i)) m
      | _ => .no) toI) := by intros; rfl
theorem sI_not {C : Cx} : ∀ a ρ m, evI C (.not a) ρ m = (R.bind ((evE C a ρ m).bind fun x m => match x with
      | .bl b => .ok (.bl (!b)) m
      | _ => .no) toI) := by intros; rfl
theorem sI_and {C : Cx} : ∀ a b ρ m, evI C (.and a b) ρ m = (R.bind ((evE C a ρ m).bind fun x m => match x with
      | .bl c => if c then evE C b ρ m else .ok (.bl false) m
      | _ => .no) toI) := by intros; rfl
theorem sI_or {C : Cx} : ∀ a b ρ m, evI C (.or a b) ρ m = (R.bind ((evE C a ρ m).bind fun x m => match x with
      | .bl c => if c then .ok (.bl true) m else evE C b ρ m
      | _ => .no) toI) := by intros; rfl
theorem sI_cmp {C : Cx} : ∀ op a b ρ m, evI C (.cmp op a b) ρ m = (R.bind ((evE C a ρ m).bind fun x m => (evE C b ρ m).bind fun y m => (cmpop op x y m).bind fun c m => .ok (.bl c) m) toI) := by intros; rfl
theorem sI_chain {C : Cx} : ∀ o1 o2 a b c ρ m, evI C (.chain o1 o2 a b c) ρ m = (R.bind ((evE C a ρ m).bind fun x m => (evE C b ρ m).bind fun y m => (cmpop o1 x y m).bind fun k m =>
        if k then (evE C c ρ m).bind fun z m => (cmpop o2 y z m).bind fun k m => .ok (.bl k) m else .ok (.bl false) m) toI) := by intros; rfl
theorem sI_ife {C : Cx} : ∀ t a b ρ m, evI C (.ife t a b) ρ m = (R.bind ((evT C t ρ m).bind fun c m => if c then evE C a ρ m else evE C b ρ m) toI) := by intros; rfl
theorem sI_tup {C : Cx} : ∀ es ρ m, evI C (.tup es) ρ m = (R.bind ((evEs C es ρ m).bind fun ws m => if ws.length ≤ lim then .ok (.tup ws) m else .no) toI) := by intros; rfl
theorem sI_lst {C : Cx} : ∀ es ρ m, evI C (.lst es) ρ m = (R.bind ((evEs C es ρ m).bind fun ws m => if ws.length ≤ lim then new (.lst ws) m else .no) toI) := by intros; rfl
theorem sI_idx {C : Cx} : ∀ a b ρ m, evI C (.idx a b) ρ m = (R.bind ((evE C a ρ m).bind fun x m => (evE C b ρ m).bind fun y m => idxop x y m) toI) := by intros; rfl
theorem sI_slc {C : Cx} : ∀ a lo hi ρ m, evI C (.slc a lo hi) ρ m = (R.bind ((evE C a ρ m).bind fun x m => (evO C lo ρ m).bind fun l m => (evO C hi ρ m).bind fun u m => slcop x l u m) toI) := by intros; rfl
theorem sI_call {C : Cx} : ∀ f es ρ m, evI C (.call f es) ρ m = (R.bind ((evEs C es ρ m).bind fun ws m => C.call f ws m) toI) := by intros; rfl
theorem sI_blt {C : Cx} : ∀ b es ρ m, evI C (.blt b es) ρ m = (R.bind ((evEs C es ρ m).bind fun ws m => bltop b ws m) toI) := by intros; rfl
theorem sI_isI {C : Cx} : ∀ a t ρ m, evI C (.isI a t) ρ m = (R.bind ((evE C a ρ m).bind fun x m => match isTy m t x with
      | some b => .ok (.bl b) m
      | none => .no) toI) := by intros; rfl
theorem sI_meth {C : Cx} : ∀ o name es ρ m, evI C (.meth o name es) ρ m = (R.bind ((evE C o ρ m).bind fun x m => if kdOf m x = kdM name then (evEs C es ρ m).bind fun ws m => methop x name ws m else .no) toI) := by intros; rfl
theorem sI_comp {C : Cx} : ∀ g ρ m, evI C (.comp g) ρ m = (R.bind ((evG C g ρ m []).bind fun p m => new (.lst p.1) m) toI) := by intros; rfl
theorem sI_lrng {C : Cx} : ∀ a ρ m, evI C (.lrng a) ρ m = (R.bind ((evE C a ρ m).bind fun x m => match x with
      | .int j => if 0 ≤ j ∧ j ≤ 1000000 then new (.lst ((List.range j.toNat).map fun i => W.int (i : Nat))) m else .no
      | _ => .no) toI) := by intros; rfl
theorem sI_frz {C : Cx} : ∀ a ρ m, evI C (.frz a) ρ m = (R.bind (frzR m (evE C a ρ m)) toI) := by intros; rfl
theorem sI_fld {C : Cx} : ∀ a f ρ m, evI C (.fld a f) ρ m = (R.bind ((evE C a ρ m).bind fun x m => fldop C.cs x f m) toI) := by intros; rfl
theorem sI_make {C : Cx} : ∀ c es ρ m, evI C (.make c es) ρ m = (R.bind ((evEs C es ρ m).bind fun ws m => makeop C c ws m) toI) := by intros; rfl
theorem sI_mth {C : Cx} : ∀ o f es ρ m, evI C (.mth o f es) ρ m = (R.bind ((evE C o ρ m).bind fun x m => match mthop C.cs x f m with
      | some i => (evEs C es ρ m).bind fun ws m => C.call i (x :: ws) m
      | none => .no) toI) := by intros; rfl
theorem sI_set0 {C : Cx} : ∀ v1_ m, evI C (.set0) v1_ m = (R.bind (new (.set []) m) toI) := by intros; rfl
theorem sI_sset {C : Cx} : ∀ a ρ m, evI C (.sset a) ρ m = (R.bind (.no) toI) := by intros; rfl
theorem sG_elt {C : Cx} : ∀ e ρ m acc, evG C (.elt e) ρ m acc = ((evE C e ρ m).bind fun w m => if acc.length < lim then .ok (acc ++ [w], ρ) m else .no) := by intros; rfl
theorem sG_gen {C : Cx} : ∀ t js it ifs rest ρ m acc, evG C (.gen t js it ifs rest) ρ m acc = ((evI C it ρ m).bind fun s m => compN s.get t (fun ρ m => evIfs C ifs ρ m) (fun ρ m acc => evG C rest ρ m acc) (s.len m) 0 (clr js ρ) m acc) := by intros; rfl
theorem sIfs_nil {C : Cx} : ∀ v1_ m, evIfs C (.nil) v1_ m = (.ok true m) := by intros; rfl
theorem sIfs_cons {C : Cx} : ∀ e es ρ m, evIfs C (.cons e es) ρ m = ((evT C e ρ m).bind fun b m => if b then evIfs C es ρ m else .ok false m) := by intros; rfl
theorem sA_pt {C : Cx} : ∀ t w ρ m, evA C (.pt t) w ρ m = (match bindT t w ρ with
    | some ρ => .ok ρ m
    | none => .no) := by intros; rfl
theorem sA_sub {C : Cx} : ∀ o i w ρ m, evA C (.sub o i) w ρ m = ((evE C o ρ m).bind fun x m => (evE C i ρ m).bind fun y m => (setop x y w m).bind fun _ m => .ok ρ m) := by intros; rfl
theorem sA_tup {C : Cx} : ∀ l w ρ m, evA C (.tup l) w ρ m = (match getS m w with
    | some xs => evAs C l xs ρ m
    | none => .no) := by intros; rfl
theorem sAs_nil {C : Cx} : ∀ xs ρ m, evAs C (.nil) xs ρ m = (match xs with
    | [] => .ok ρ m
    | _ :: _ => .no) := by intros; rfl
theorem sAs_cons {C : Cx} : ∀ a l xs ρ m, evAs C (.cons a l) xs ρ m = (match xs with
    | [] => .no
    | x :: xs => (evA C a x ρ m).bind fun ρ m => evAs C l xs ρ m) := by intros; rfl
theorem sS_asg {C : Cx} : ∀ t e ρ m, evS C (.asg t e) ρ m = ((evE C e ρ m).bind fun w m => (evA C t w ρ m).bind fun ρ m => .ok (.nx ρ) m) := by intros; rfl
theorem sS_expr {C : Cx} : ∀ e ρ m, evS C (.expr e) ρ m = ((evE C e ρ m).bind fun _ m => .ok (.nx ρ) m) := by intros; rfl
theorem sS_ret {C : Cx} : ∀ e ρ m, evS C (.ret e) ρ m = ((evE C e ρ m).bind fun w m => .ok (.rt w) m) := by intros; rfl
theorem sS_retN {C : Cx} : ∀ v1_ m, evS C (.retN) v1_ m = (.ok (.rt .non) m) := by intros; rfl
theorem sS_ife {C : Cx} : ∀ t a b ρ m, evS C (.ife t a b) ρ m = ((evT C t ρ m).bind fun c m => if c then evSs C a ρ m else evSs C b ρ m) := by intros; rfl
theorem sS_for_ {C : Cx} : ∀ t it b ρ m, evS C (.for_ t it b) ρ m = ((evI C it ρ m).bind fun s m => forN s.get t (fun ρ m => evSs C b ρ m) (s.len m) 0 ρ m) := by intros; rfl
theorem sS_pass {C : Cx} : ∀ ρ m, evS C (.pass) ρ m = (.ok (.nx ρ) m) := by intros; rfl
theorem sS_brk {C : Cx} : ∀ ρ m, evS C (.brk) ρ m = (.ok (.bk ρ) m) := by intros; rfl
theorem sS_cont {C : Cx} : ∀ ρ m, evS C (.cont) ρ m = (.ok (.ct ρ) m) := by intros; rfl
theorem sS_never {C : Cx} : ∀ v1_ v2_, evS C (.never) v1_ v2_ = (.no) := by intros; rfl
theorem sS_fas {C : Cx} : ∀ o f e ρ m, evS C (.fas o f e) ρ m = ((evE C e ρ m).bind fun w m => (evE C o ρ m).bind fun x m => (fasop C.cs x f w m).bind fun _ m => .ok (.nx ρ) m) := by intros; rfl
theorem sSs_nil {C : Cx} : ∀ ρ m, evSs C (.nil) ρ m = (.ok (.nx ρ) m) := by intros; rfl
theorem sSs_cons {C : Cx} : ∀ s r ρ m, evSs C (.cons s r) ρ m = ((evS C s ρ m).bind fun f m => match f with
    | .nx ρ => evSs C r ρ m
    | f => .ok f m) := by intros; rfl
end D

end
section
set_option Elab.async false
set_option linter.all false
set_option maxRecDepth 100000
set_option autoImplicit false
namespace D
open PySem PySem.Spec PyProof.Rows L2
noncomputable def SqF (K : PySem.W.Frag) (H : Hp) (a : Addr) (xs : List V) : Prop := (∃ o, H a = some (.frz o (.lst xs))) ∨
 ∃ (o : Obj) (its : Array Value) (n : Nat), K.lookup a = some o ∧ o.cls = .type "list" ∧ o.dict = none ∧ o.data = .seq its n ∧ its.size ≤ sizeLine ∧ Vals xs its.toList
theorem SqF.l {K : PySem.W.Frag} {H : Hp} {a : Addr} {xs : List V} (h : SqF K H a xs) : SqL K H a xs := h.elim (fun ⟨o, e⟩ => .inl (.inr ⟨o, e⟩)) .inr
noncomputable def clsOf (K : PySem.W.Frag) (c : Str) : Addr := match PySem.W.nsIn K mainGlobals c with
 | some (some (.ref C)) => C
 | _ => 0
set_option genInjectivity false in
structure Cl where
 P : Program
 w : World
section
variable (K : PySem.W.Frag) (cl : Cl)
mutual
inductive RW (β : List Addr) (H : Hp) : W → V → Prop
 | non : RW β H .non .non
 | bl (b) : RW β H (.bl b) (.bl b)
 | int (i) : RW β H (.int i) (.int i)
 | str (x) : RW β H (.str x) (.str x)
 | tup {a vs xs} : SqT K H a vs → RWs β H xs vs → RW β H (.tup xs) (.ref a)
 | fz {a vs xs} : SqF K H a vs → RWs β H xs vs → RW β H (.fz xs) (.ref a)
 | obj {a c ks xs dx o fs} : H a = some (.frz o (.ins (clsOf K c) dx fs)) → ks = fs.map (·.1) → RWs β H xs (fs.map (·.2)) → RW β H (.obj c ks xs) (.ref a)
 | ref {n a} : β[n]? = some a → RW β H (.ref n) (.ref a)
inductive RWs (β : List Addr) (H : Hp) : List W → List V → Prop
 | nil : RWs β H [] []
 | cons {w v ws vs} : RW β H w v → RWs β H ws vs → RWs β H (w :: ws) (v :: vs)
end
inductive RFs (β : List Addr) (H : Hp) : List (Str × W) → List (Str × V) → Prop
 | nil : RFs β H [] []
 | cons {f w v ws vs} : RW K β H w v → RFs β H ws vs → RFs β H ((f, w) :: ws) ((f, v) :: vs)
noncomputable def RO (β : List Addr) (H : Hp) (a : Addr) : O → Prop
 | .lst ws => ∃ vs, H a = some (.lst vs) ∧ RWs K β H ws vs
 | .ins c fs => ∃ dx fs', H a = some (.ins (clsOf K c) dx fs') ∧ RFs K β H fs fs'
 | .set ks => ∃ S, H a = some (SetO cl.P cl.w a S ks.length) ∧ ∀ k, S k = memK k ks
structure Rel (β : List Addr) (m : Mem) (H : Hp) : Prop where
 len : β.length = m.length
 nd : β.Nodup
 obj : ∀ {n : Nat} {o : O} {a : Addr}, m[n]? = some o → β[n]? = some a → RO K cl β H a o
structure ExtD (Δ : Option Addr) (β : List Addr) (H : Hp) (β' : List Addr) (H' : Hp) : Prop where
 pre : ∃ γ, β' = β ++ γ ∧ ∀ a ∈ γ, H a = none
 keep : ∀ {a : Addr} {o : HO}, H a = some o → a ∉ β → some a ≠ Δ → H' a = some o
abbrev Ext := ExtD none
structure RL (β : List Addr) (H : Hp) (ρ : Loc) (σ : L2.St) : Prop where
 len : ρ.length = σ.length
 at_ : ∀ {i : Nat} {w : W}, ρ[i]? = some (some w) → ∃ v, σ[i]? = some (some v) ∧ RW K β H w v
end
section
variable {K : PySem.W.Frag} {cl : Cl} {β β' β'' : List Addr} {H H' H'' : Hp} {m m' : Mem} {a : Addr}
theorem Rel.mem (r : Rel K cl β m H) (h : a ∈ β) : ∃ (n : Nat) (o : O), β[n]? = some a ∧ m[n]? = some o ∧ RO K cl β H a o := by
 obtain ⟨n, hn⟩ := List.getElem?_of_mem h
 have hl : n < m.length := by
  have := (List.getElem?_eq_some_iff.mp hn).1
  rw [r.len] at this
  exact this
 exact ⟨n, m[n], hn, by simp [hl], r.obj (by simp [hl]) hn⟩
theorem RO.ex {o : O} (h : RO K cl β H a o) : ∃ u, H a = some u ∧ (∀ xs, u ≠ .tup xs) ∧ ∀ ob x, u ≠ .frz ob x := by
 cases o with
 | lst ws => obtain ⟨vs, e, _⟩ := h; exact ⟨_, e, (by intro _ z; cases z), (by intro _ _ z; cases z)⟩
 | ins c fs => obtain ⟨dx, fs', e, _⟩ := h; exact ⟨_, e, (by intro _ z; cases z), (by intro _ _ z; cases z)⟩
 | set ks => obtain ⟨S, e, _⟩ := h; exact ⟨_, e, (by intro _ z; cases z), (by intro _ _ z; cases z)⟩
theorem Rel.ex (r : Rel K cl β m H) (h : a ∈ β) : ∃ u, H a = some u ∧ (∀ xs, u ≠ .tup xs) ∧ ∀ ob x, u ≠ .frz ob x := by
 obtain ⟨n, o, _, _, x⟩ := r.mem h
 exact x.ex
theorem Ext.refl {Δ : Option Addr} : ExtD Δ β H β H := ⟨⟨[], by simp, by simp⟩, fun h _ _ => h⟩
theorem ExtD.trans {Δ : Option Addr} (x : ExtD Δ β H β' H') (r' : Rel K cl β' m' H') (y : ExtD Δ β' H' β'' H'') (hD : ∀ d, Δ = some d → H' d ≠ none := by intro d z; cases z) : ExtD Δ β H β'' H'' := by
 obtain ⟨γ, rfl, hγ⟩ := x.pre
 obtain ⟨δ, rfl, hδ⟩ := y.pre
 refine ⟨⟨γ ++ δ, by simp, fun a ha => ?_⟩, fun {a o} h hn hd => ?_⟩
 ·rcases List.mem_append.mp ha with z | z
  ·exact hγ a z
  ·by_cases hb : a ∈ β
   ·obtain ⟨u, e, _⟩ := r'.ex (List.mem_append_left _ hb)
    rw [hδ a z] at e; cases e
   ·cases e : H a with
    | none => rfl
    | some o =>
     by_cases hd : some a = Δ
     ·exact absurd (hδ a z) (hD a hd.symm)
     ·have := x.keep e hb hd
      rw [hδ a z] at this; cases this
 ·refine y.keep (x.keep h hn hd) (fun z => ?_) hd
  rcases List.mem_append.mp z with z | z
  ·exact hn z
  ·rw [hγ a z] at h; cases h
theorem ExtD.toD {d : Addr} (x : Ext β H β' H') : ExtD (some d) β H β' H' := ⟨x.pre, fun h hn _ => x.keep h hn (by simp)⟩
theorem ExtD.sqT {Δ : Option Addr} (x : ExtD Δ β H β' H') (r : Rel K cl β m H) (hD : ∀ d, Δ = some d → ∃ vs, H d = some (.lst vs)) {vs : List V} (h : SqT K H a vs) : SqT K H' a vs := by
 rcases h with h | h
 ·refine .inl ?_
  have na : a ∉ β := fun z => by
   obtain ⟨u, e, n1, n2⟩ := r.ex z
   rcases h with h | ⟨o, h⟩
   ·rw [h] at e; cases e; exact n1 _ rfl
   ·rw [h] at e; cases e; exact n2 _ _ rfl
  have nd : some a ≠ Δ := fun z => by
   obtain ⟨vs, e⟩ := hD a z.symm
   rcases h with h | ⟨o, h⟩
   ·rw [h] at e; cases e
   ·rw [h] at e; cases e
  rcases h with h | ⟨o, h⟩
  ·exact .inl (x.keep h na nd)
  ·exact .inr ⟨o, x.keep h na nd⟩
 ·exact .inr h
theorem ExtD.sqF {Δ : Option Addr} (x : ExtD Δ β H β' H') (r : Rel K cl β m H) (hD : ∀ d, Δ = some d → ∃ vs, H d = some (.lst vs)) {vs : List V} (h : SqF K H a vs) : SqF K H' a vs := by
 rcases h with ⟨o, h⟩ | h
 ·refine .inl ⟨o, x.keep h (fun z => ?_) fun z => ?_⟩
  ·obtain ⟨u, e, n1, n2⟩ := r.ex z
   rw [h] at e; cases e; exact n2 _ _ rfl
  ·obtain ⟨vs, e⟩ := hD a z.symm
   rw [h] at e; cases e
 ·exact .inr h
theorem ExtD.fz {Δ : Option Addr} (x : ExtD Δ β H β' H') (r : Rel K cl β m H) (hD : ∀ d, Δ = some d → ∃ vs, H d = some (.lst vs)) {o : Obj} {u : HO} (h : H a = some (.frz o u)) : H' a = some (.frz o u) := by
 refine x.keep h (fun z => ?_) fun z => ?_
 ·obtain ⟨u, e, n1, n2⟩ := r.ex z
  rw [h] at e; cases e; exact n2 _ _ rfl
 ·obtain ⟨vs, e⟩ := hD a z.symm
  rw [h] at e; cases e
theorem ExtD.get {Δ : Option Addr} {n : Nat} (x : ExtD Δ β H β' H') (h : β[n]? = some a) : β'[n]? = some a := by
 obtain ⟨γ, rfl, _⟩ := x.pre
 rw [List.getElem?_append_left (List.getElem?_eq_some_iff.mp h).1]
 exact h
theorem RW.gen {H2 : Hp} {β2 : List Addr} (hT : ∀ {a : Addr} {vs : List V}, SqT K H a vs → SqT K H2 a vs) (hF : ∀ {a : Addr} {vs : List V}, SqF K H a vs → SqF K H2 a vs) (hO : ∀ {a : Addr} {o : Obj} {u : HO}, H a = some (.frz o u) → H2 a = some (.frz o u)) (hR : ∀ {n : Nat} {a : Addr}, β[n]? = some a → β2[n]? = some a) {w : W} {v : V} (q : RW K β H w v) : RW K β2 H2 w v :=
 RW.rec (motive_1 := fun w v _ => RW K β2 H2 w v) (motive_2 := fun w v _ => RWs K β2 H2 w v) .non .bl .int .str (fun h _ i => .tup (hT h) i) (fun h _ i => .fz (hF h) i) (fun h e _ i => .obj (hO h) e i) (fun h => .ref (hR h)) .nil (fun _ _ a b => .cons a b) q
theorem RWs.map1 {H2 : Hp} {β2 : List Addr} (f : ∀ {w : W} {v : V}, RW K β H w v → RW K β2 H2 w v) {w : List W} {v : List V} (q : RWs K β H w v) : RWs K β2 H2 w v := by
 induction w generalizing v with
 | nil => cases q; exact .nil
 | cons x w ih => cases q with | cons a b => exact .cons (f a) (ih b)
theorem RFs.map1 {H2 : Hp} {β2 : List Addr} (f : ∀ {w : W} {v : V}, RW K β H w v → RW K β2 H2 w v) {w : List (Str × W)} {v : List (Str × V)} (q : RFs K β H w v) : RFs K β2 H2 w v := by
 induction q with
 | nil => exact .nil
 | cons a b ih => exact .cons (f a) ih
theorem RW.monoD {Δ : Option Addr} (r : Rel K cl β m H) (hD : ∀ d, Δ = some d → ∃ vs, H d = some (.lst vs)) (x : ExtD Δ β H β' H') {w : W} {v : V} (q : RW K β H w v) : RW K β' H' w v :=
 q.gen (x.sqT r hD) (x.sqF r hD) (x.fz r hD) x.get
theorem RWs.monoD {Δ : Option Addr} (r : Rel K cl β m H) (hD : ∀ d, Δ = some d → ∃ vs, H d = some (.lst vs)) (x : ExtD Δ β H β' H') {w : List W} {v : List V} (q : RWs K β H w v) : RWs K β' H' w v := q.map1 (RW.monoD r hD x)
theorem noD {P : Addr → Prop} : ∀ d, (none : Option Addr) = some d → P d := fun d z => by cases z
theorem RW.mono (r : Rel K cl β m H) (x : Ext β H β' H') {w : W} {v : V} (h : RW K β H w v) : RW K β' H' w v := h.monoD r noD x
theorem RWs.mono (r : Rel K cl β m H) (x : Ext β H β' H') {w : List W} {v : List V} (h : RWs K β H w v) : RWs K β' H' w v := h.monoD r noD x
theorem RFs.monoD {Δ : Option Addr} (r : Rel K cl β m H) (hD : ∀ d, Δ = some d → ∃ vs, H d = some (.lst vs)) (x : ExtD Δ β H β' H') {w : List (Str × W)} {v : List (Str × V)} (q : RFs K β H w v) : RFs K β' H' w v := q.map1 (RW.monoD r hD x)
theorem RL.monoD {Δ : Option Addr} (r : Rel K cl β m H) (hD : ∀ d, Δ = some d → ∃ vs, H d = some (.lst vs)) (x : ExtD Δ β H β' H') {ρ : Loc} {σ : L2.St} (l : RL K β H ρ σ) : RL K β' H' ρ σ :=
 ⟨l.len, fun h => let ⟨v, e, q⟩ := l.at_ h; ⟨v, e, q.monoD r hD x⟩⟩
theorem RL.mono (r : Rel K cl β m H) (x : Ext β H β' H') {ρ : Loc} {σ : L2.St} (l : RL K β H ρ σ) : RL K β' H' ρ σ := l.monoD r noD x
theorem RO.monoD {Δ : Option Addr} (r : Rel K cl β m H) (hD : ∀ d, Δ = some d → ∃ vs, H d = some (.lst vs)) (x : ExtD Δ β H β' H') (hk : H' a = H a) {o : O} (h : RO K cl β H a o) : RO K cl β' H' a o := by
 cases o with
 | lst ws => obtain ⟨vs, e, t⟩ := h; exact ⟨vs, hk.trans e, t.monoD r hD x⟩
 | ins c fs => obtain ⟨dx, fs', e, t⟩ := h; exact ⟨dx, fs', hk.trans e, t.monoD r hD x⟩
 | set ks => obtain ⟨S, e, t⟩ := h; exact ⟨S, hk.trans e, t⟩
theorem RO.mono (r : Rel K cl β m H) (x : Ext β H β' H') (hk : H' a = H a) {o : O} (h : RO K cl β H a o) : RO K cl β' H' a o := h.monoD r noD x hk
theorem RWs.length : ∀ {ws : List W} {vs : List V}, RWs K β H ws vs → ws.length = vs.length := by
 intro ws
 induction ws with
 | nil => intro vs h; cases h; rfl
 | cons w ws ih => intro vs h; cases h with | cons q t => rw [List.length_cons, List.length_cons, ih t]
theorem RWs.get : ∀ {ws : List W} {vs : List V} {i : Nat} {w : W}, RWs K β H ws vs → ws[i]? = some w → ∃ v, vs[i]? = some v ∧ RW K β H w v
 | _, _, _, _, .nil, e => by simp at e
 | _, _, 0, _, .cons h t, e => by simp at e; subst e; exact ⟨_, rfl, h⟩
 | _, _, i + 1, _, .cons h t, e => by simpa using RWs.get (i := i) t (by simpa using e)
theorem RWs.append : ∀ {v w : List W} {d e : List V}, RWs K β H v d → RWs K β H w e → RWs K β H (v ++ w) (d ++ e) := by
 intro v
 induction v with
 | nil => intro w d e h s; cases h; exact s
 | cons x v ih => intro w d e h s; cases h with | cons q t => exact .cons q (ih t s)
theorem RWs.take : ∀ {ws : List W} {vs : List V} (n : Nat), RWs K β H ws vs → RWs K β H (ws.take n) (vs.take n)
 | _, _, 0, _ => .nil
 | _, _, _ + 1, .nil => .nil
 | _, _, n + 1, .cons h t => .cons h (RWs.take n t)
theorem RWs.drop : ∀ {ws : List W} {vs : List V} (n : Nat), RWs K β H ws vs → RWs K β H (ws.drop n) (vs.drop n)
 | _, _, 0, r => r
 | _, _, _ + 1, .nil => .nil
 | _, _, n + 1, .cons h t => RWs.drop n t
theorem RWs.set {w : W} {v : V} (r : RW K β H w v) : ∀ {ws : List W} {vs : List V} (i : Nat), RWs K β H ws vs → RWs K β H (ws.set i w) (vs.set i v)
 | _, _, _, .nil => .nil
 | _, _, 0, .cons _ t => .cons r t
 | _, _, i + 1, .cons q t => .cons q (RWs.set r i t)
theorem RWs.reverse : ∀ {ws : List W} {vs : List V}, RWs K β H ws vs → RWs K β H ws.reverse vs.reverse
 | _, _, .nil => .nil
 | _, _, .cons q t => by rw [List.reverse_cons, List.reverse_cons]; exact (RWs.reverse t).append (.cons q .nil)
theorem RWs.bools {bs : List Bool} : ∀ {ws : List W} {vs : List V}, RWs K β H ws vs → D.bools ws = Option.some bs → vs = bs.map V.bl := by
 induction bs with
 | nil =>
  intro ws vs h e
  cases h with
  | nil => rfl
  | cons q t => cases q <;> simp [D.bools] at e
 | cons b bs ih =>
  intro ws vs h e
  cases h with
  | nil => simp [D.bools] at e
  | cons q t =>
   cases q with
   | bl c =>
    simp only [D.bools, Option.map_eq_some_iff] at e
    obtain ⟨r, e1, e2⟩ := e
    cases e2
    rw [ih t e1]; rfl
   | _ => simp [D.bools] at e
theorem RW.sub (h : ∀ {n : Nat} {a : Addr}, β[n]? = Option.some a → β'[n]? = Option.some a) {w : W} {v : V} (q : RW K β H w v) : RW K β' H w v := q.gen id id id h
theorem RWs.sub (h : ∀ {n : Nat} {a : Addr}, β[n]? = Option.some a → β'[n]? = Option.some a) {w : List W} {v : List V} (q : RWs K β H w v) : RWs K β' H w v := q.map1 (RW.sub h)
theorem RFs.sub (h : ∀ {n : Nat} {a : Addr}, β[n]? = Option.some a → β'[n]? = Option.some a) {w : List (Str × W)} {v : List (Str × V)} (q : RFs K β H w v) : RFs K β' H w v := q.map1 (RW.sub h)
theorem RO.sub (h : ∀ {n : Nat} {a : Addr}, β[n]? = Option.some a → β'[n]? = Option.some a) {o : O} (q : RO K cl β H a o) : RO K cl β' H a o := by
 cases o with
 | lst ws => obtain ⟨vs, e, t⟩ := q; exact ⟨vs, e, t.sub h⟩
 | ins c fs => obtain ⟨dx, fs', e, t⟩ := q; exact ⟨dx, fs', e, t.sub h⟩
 | set ks => exact q
theorem Rel.newT (r : Rel K cl β m H) {p : Addr} (hp : H p = none) (vs : List V) : Ext β H β (upd H p (.tup vs)) ∧ Rel K cl β m (upd H p (.tup vs)) := by
 have x : Ext β H β (upd H p (.tup vs)) := ⟨⟨[], by simp, by simp⟩, fun h _ _ => by rw [upd_ne (ne_of_none h hp)]; exact h⟩
 refine ⟨x, r.len, r.nd, fun h1 h2 => ?_⟩
 have q := r.obj h1 h2
 obtain ⟨u, e, _⟩ := q.ex
 exact q.mono r x (upd_ne (ne_of_none e hp))
theorem Rel.nin (r : Rel K cl β m H) {p : Addr} (hp : H p = none) : p ∉ β := fun z => by
 obtain ⟨u, e, _⟩ := r.ex z
 rw [hp] at e; cases e
theorem Rel.newO (r : Rel K cl β m H) {p : Addr} {ho : HO} {o : O} (hp : H p = none) (q : ∀ x : Ext β H (β ++ [p]) (upd H p ho), RO K cl (β ++ [p]) (upd H p ho) p o) : Ext β H (β ++ [p]) (upd H p ho) ∧ Rel K cl (β ++ [p]) (m ++ [o]) (upd H p ho) := by
 have x : Ext β H (β ++ [p]) (upd H p ho) := ⟨⟨[p], rfl, fun a ha => by simp at ha; rw [ha]; exact hp⟩, fun h _ _ => by rw [upd_ne (ne_of_none h hp)]; exact h⟩
 refine ⟨x, by simp [r.len], ?_, fun {n o' a} h1 h2 => ?_⟩
 ·rw [List.nodup_append]
  refine ⟨r.nd, by simp, fun a ha b hb => ?_⟩
  simp at hb
  subst hb
  rintro rfl
  exact r.nin hp ha
 ·by_cases hn : n < m.length
  ·rw [List.getElem?_append_left hn] at h1
   rw [List.getElem?_append_left (by rw [r.len]; exact hn)] at h2
   have q := r.obj h1 h2
   obtain ⟨u, e, _⟩ := q.ex
   exact q.mono r x (upd_ne (ne_of_none e hp))
  ·have e1 := (List.getElem?_eq_some_iff.mp h1).1
   simp at e1
   have e : n = m.length := by omega
   subst e
   rw [List.getElem?_append_right (Nat.le_refl _)] at h1
   rw [← r.len, List.getElem?_append_right (Nat.le_refl _)] at h2
   simp at h1 h2
   subst h1 h2
   exact q x
theorem Rel.newL (r : Rel K cl β m H) {p : Addr} (hp : H p = none) {ws : List W} {vs : List V} (q : RWs K β H ws vs) : Ext β H (β ++ [p]) (upd H p (.lst vs)) ∧ Rel K cl (β ++ [p]) (m ++ [.lst ws]) (upd H p (.lst vs)) :=
 r.newO hp fun x => ⟨vs, upd_same, q.mono r x⟩
theorem Rel.priv (r : Rel K cl β m H) {d : Addr} {vs vs' : List V} (hd : H d = Option.some (.lst vs)) (hn : d ∉ β) : ExtD (Option.some d) β H β (upd H d (.lst vs')) ∧ Rel K cl β m (upd H d (.lst vs')) := by
 have x : ExtD (Option.some d) β H β (upd H d (.lst vs')) := ⟨⟨[], by simp, by simp⟩, fun {a o} h _ na => by rw [upd_ne (fun z => na (by rw [z]))]; exact h⟩
 refine ⟨x, r.len, r.nd, fun h1 h2 => ?_⟩
 have q := r.obj h1 h2
 refine q.monoD r (fun d' z => ?_) x (upd_ne fun z => ?_)
 ·cases z; exact ⟨_, hd⟩
 ·exact hn (by rw [← z]; exact List.mem_of_getElem? h2)
theorem Rel.out (r : Rel K cl β m H) {d : Addr} {vs : List V} {ws : List W} (hd : H d = Option.some (.lst vs)) (hn : d ∉ β) (t : RWs K β H ws vs) : Rel K cl (β ++ [d]) (m ++ [.lst ws]) H := by
 have x : ∀ {w : List W} {v : List V}, RWs K β H w v → RWs K (β ++ [d]) H w v := by
  have xx : ∀ {n : Nat} {a : Addr}, β[n]? = Option.some a → (β ++ [d])[n]? = Option.some a := fun {n a} h => by
   rw [List.getElem?_append_left (List.getElem?_eq_some_iff.mp h).1]; exact h
  intro w v h
  exact RWs.sub xx h
 refine ⟨by simp [r.len], ?_, fun {n o a} h1 h2 => ?_⟩
 ·rw [List.nodup_append]
  refine ⟨r.nd, by simp, fun a ha b hb => ?_⟩
  simp at hb
  subst hb
  rintro rfl
  exact hn ha
 ·by_cases hl : n < m.length
  ·rw [List.getElem?_append_left hl] at h1
   rw [List.getElem?_append_left (by rw [r.len]; exact hl)] at h2
   exact (r.obj h1 h2).sub fun {n a} h => by rw [List.getElem?_append_left (List.getElem?_eq_some_iff.mp h).1]; exact h
  ·have e1 := (List.getElem?_eq_some_iff.mp h1).1
   simp at e1
   have e : n = m.length := by omega
   subst e
   rw [List.getElem?_append_right (Nat.le_refl _)] at h1
   rw [← r.len, List.getElem?_append_right (Nat.le_refl _)] at h2
   simp at h1 h2
   subst h1 h2
   exact ⟨vs, hd, x t⟩
theorem Rel.last (r : Rel K cl β m H) (p : Addr) : (β ++ [p])[m.length]? = Option.some p := by
 rw [← r.len, List.getElem?_append_right (Nat.le_refl _)]; simp
theorem Rel.setL (r : Rel K cl β m H) {n : Nat} {o : O} {ws' : List W} {vs' : List V} (hm : m[n]? = Option.some o) (hb : β[n]? = Option.some a) (q : RWs K β H ws' vs') : Ext β H β (upd H a (.lst vs')) ∧ Rel K cl β (m.set n (.lst ws')) (upd H a (.lst vs')) := by
 have ha : a ∈ β := List.mem_of_getElem? hb
 have x : Ext β H β (upd H a (.lst vs')) := ⟨⟨[], by simp, by simp⟩, fun {b u} h hn _ => by rw [upd_ne (show b ≠ a from fun z => hn (by rw [z]; exact ha))]; exact h⟩
 refine ⟨x, by simp [r.len], r.nd, fun {k o' b} h1 h2 => ?_⟩
 by_cases hk : n = k
 ·subst hk
  rw [hb] at h2; cases h2
  rw [List.getElem?_set_self (List.getElem?_eq_some_iff.mp hm).1] at h1
  cases h1
  exact ⟨vs', upd_same, q.mono r x⟩
 ·rw [List.getElem?_set_ne hk] at h1
  have q' := r.obj h1 h2
  refine q'.mono r x (upd_ne ?_)
  rintro rfl
  obtain ⟨h3, e3⟩ := List.getElem?_eq_some_iff.mp h2
  obtain ⟨h4, e4⟩ := List.getElem?_eq_some_iff.mp hb
  exact hk ((List.getElem_inj r.nd).mp (e4.trans e3.symm))
theorem Rel.getL (r : Rel K cl β m H) {w : W} {v : V} {ws : List W} (q : RW K β H w v) (e : D.getL m w = Option.some ws) : ∃ a vs, v = .ref a ∧ SqL K H a vs ∧ RWs K β H ws vs := by
 cases q with
 | ref h =>
  unfold D.getL at e
  dsimp only at e
  split at e
  ·rename_i xs e1
   cases e
   obtain ⟨vs, z, t⟩ := r.obj e1 h
   exact ⟨_, vs, rfl, .inl (.inl z), t⟩
  ·cases e
 | fz h t => cases e; exact ⟨_, _, rfl, h.l, t⟩
 | _ => simp [D.getL] at e
theorem Rel.getS (r : Rel K cl β m H) {w : W} {v : V} {ws : List W} (q : RW K β H w v) (e : D.getS m w = Option.some ws) : ∃ a vs, v = .ref a ∧ (SqL K H a vs ∨ SqT K H a vs) ∧ RWs K β H ws vs := by
 cases w with
 | tup xs =>
  cases q with
  | tup h t =>
   cases e
   exact ⟨_, _, rfl, .inr h, t⟩
 | _ =>
  obtain ⟨a, vs, e1, e2, e3⟩ := r.getL q e
  exact ⟨a, vs, e1, .inl e2, e3⟩
theorem Rel.lst (r : Rel K cl β m H) {n : Nat} {v : V} {ws : List W} (q : RW K β H (.ref n) v) (e : m[n]? = Option.some (.lst ws)) : ∃ a vs, v = .ref a ∧ β[n]? = Option.some a ∧ H a = Option.some (.lst vs) ∧ RWs K β H ws vs := by
 cases q with
 | ref h =>
  obtain ⟨vs, z, t⟩ := r.obj e h
  exact ⟨_, vs, rfl, h, z, t⟩
theorem allD_dts {f : W → Option PyData} : ∀ {ws : List W} {vs : List V} {ds : List PyData}, (∀ w v d, w ∈ ws → RW K β H w v → f w = Option.some d → Dt K H v d) → RWs K β H ws vs → allD f ws = Option.some ds → Dts K H vs ds := by
 intro ws
 induction ws with
 | nil => intro vs ds h q e; cases q; cases e; exact .nil
 | cons w ws ih =>
  intro vs ds h q e
  cases q with
  | cons q t =>
   unfold allD at e
   split at e
   ·cases e
   ·rename_i d e1
    split at e
    ·cases e
    ·rename_i ds e2
     cases e
     exact .cons (h w _ d List.mem_cons_self q e1) (ih (fun w' v' d' hw => h w' v' d' (List.mem_cons_of_mem _ hw)) t e2)
theorem toD_dt (r : Rel K cl β m H) : ∀ (n : Nat) {w : W} {v : V} {d : PyData}, RW K β H w v → toD n m w = Option.some d → Dt K H v d
 | 0, _, _, _, _, e => by cases e
 | n + 1, w, v, d, q, e => by
  unfold toD at e
  cases q with
  | non => cases e; exact .non
  | bl b => cases e; exact .bl b
  | int i => cases e; exact .int i
  | str x =>
   dsimp only at e
   split at e
   ·cases e; exact .str x
   ·cases e
  | tup h t =>
   simp only [Option.map_eq_some_iff] at e
   obtain ⟨ds, e1, e2⟩ := e
   subst e2
   exact .tup h (allD_dts (fun w v d _ q e => toD_dt r n q e) t e1)
  | fz h t =>
   simp only [Option.map_eq_some_iff] at e
   obtain ⟨ds, e1, e2⟩ := e
   subst e2
   exact .lst h.l (allD_dts (fun w v d _ q e => toD_dt r n q e) t e1)
  | obj h e0 t => cases e
  | ref h =>
   dsimp only at e
   split at e
   ·rename_i xs e1
    simp only [Option.map_eq_some_iff] at e
    obtain ⟨ds, e2, e3⟩ := e
    subst e3
    obtain ⟨a, vs, z1, z2, z3⟩ := r.getL (.ref h) e1
    cases z1
    exact .lst z2 (allD_dts (fun w v d _ q e => toD_dt r n q e) z3 e2)
   ·cases e
theorem allD_all {f : W → Option PyData} {n : Nat} : ∀ {ws : List W} {ds : List PyData}, (∀ w d, f w = Option.some d → d.canLay0 = true ∧ d.depth ≤ n) → allD f ws = Option.some ds → PyData.canLayAll0 ds = true ∧ PyData.depthAll ds ≤ n
 | [], _, _, e => by cases e; exact ⟨rfl, Nat.zero_le _⟩
 | w :: ws, _, h, e => by
  unfold allD at e
  split at e
  ·cases e
  ·rename_i d e1
   split at e
   ·cases e
   ·rename_i ds e2
    cases e
    obtain ⟨a1, a2⟩ := h w d e1
    obtain ⟨b1, b2⟩ := allD_all h e2
    refine ⟨by simp [PyData.canLayAll0, a1, b1], ?_⟩
    simp only [PyData.depthAll]
    omega
theorem toD_lay : ∀ (n : Nat) {w : W} {d : PyData}, toD n m w = Option.some d → d.canLay0 = true ∧ d.depth ≤ n
 | 0, _, _, e => by cases e
 | n + 1, w, d, e => by
  unfold toD at e
  cases w with
  | non => cases e; exact ⟨rfl, by simp [PyData.depth]⟩
  | bl b => cases e; exact ⟨rfl, by simp [PyData.depth]⟩
  | int i => cases e; exact ⟨rfl, by simp [PyData.depth]⟩
  | str x =>
   dsimp only at e
   split at e
   ·rename_i hx
    cases e
    exact ⟨hx, by simp [PyData.depth]⟩
   ·cases e
  | tup xs =>
   simp only [Option.map_eq_some_iff] at e
   obtain ⟨ds, e1, e2⟩ := e
   subst e2
   obtain ⟨a1, a2⟩ := allD_all (fun w d e => toD_lay n e) e1
   exact ⟨a1, by simp only [PyData.depth]; omega⟩
  | fz xs =>
   simp only [Option.map_eq_some_iff] at e
   obtain ⟨ds, e1, e2⟩ := e
   subst e2
   obtain ⟨a1, a2⟩ := allD_all (fun w d e => toD_lay n e) e1
   exact ⟨a1, by simp only [PyData.depth]; omega⟩
  | obj c ks vs => cases e
  | ref k =>
   dsimp only at e
   split at e
   ·simp only [Option.map_eq_some_iff] at e
    obtain ⟨ds, e2, e3⟩ := e
    subst e3
    obtain ⟨a1, a2⟩ := allD_all (fun w d e => toD_lay n e) e2
    exact ⟨a1, by simp only [PyData.depth]; omega⟩
   ·cases e
theorem R.bind_ok {α γ : Type} {x : R α} {f : α → Mem → R γ} {c : γ} (h : x.bind f = .ok c m') : ∃ a m, x = .ok a m ∧ f a m = .ok c m' := by
 cases x with
 | no => cases h
 | ok a m => exact ⟨a, m, rfl, h⟩
end
end D
end
section
set_option Elab.async false
set_option linter.all false
set_option maxRecDepth 100000
set_option autoImplicit false
namespace D
open PySem PySem.Spec PyProof.Rows L2
structure UN (X : L2.Cx) (cl : Cl) : Prop where
 un : X.A.units + 64 < cLine
 P : cl.P = X.prog
 w : cl.w = X.w
theorem lim_line : lim ≤ sizeLine := by rw [sizeLine_eq]; decide
section
variable (X : L2.Cx) (cl : Cl)
noncomputable def SE (ev : Loc → Mem → R W) : TE := fun σ H Q => ∃ β ρ m w m', Rel X.K cl β m H ∧ RL X.K β H ρ σ ∧ ev ρ m = .ok w m' ∧ ∀ β' H' v, Ext β H β' H' → Rel X.K cl β' m' H' → RW X.K β' H' w v → Q v H'
noncomputable def ST (ev : Loc → Mem → R Bool) : TT := fun σ H Q => ∃ β ρ m b m', Rel X.K cl β m H ∧ RL X.K β H ρ σ ∧ ev ρ m = .ok b m' ∧ ∀ β' H', Ext β H β' H' → Rel X.K cl β' m' H' → Q b H'
noncomputable def SA (ev : Loc → Mem → R (List W)) : TA := fun σ H Q => ∃ β ρ m ws m', Rel X.K cl β m H ∧ RL X.K β H ρ σ ∧ ev ρ m = .ok ws m' ∧ ∀ β' H' vs, Ext β H β' H' → Rel X.K cl β' m' H' → RWs X.K β' H' ws vs → Q vs H'
noncomputable def SOo (ev : Loc → Mem → R (Option Int)) : TO := fun σ H Q => ∃ β ρ m o m', Rel X.K cl β m H ∧ RL X.K β H ρ σ ∧ ev ρ m = .ok o m' ∧ ∀ β' H', Ext β H β' H' → Rel X.K cl β' m' H' → Q o H'
noncomputable def SO2 (f : W → W → Mem → R W) : R2 := fun x y H Q => ∃ β m wx wy w m', Rel X.K cl β m H ∧ RW X.K β H wx x ∧ RW X.K β H wy y ∧ f wx wy m = .ok w m' ∧ ∀ β' H' v, Ext β H β' H' → Rel X.K cl β' m' H' → RW X.K β' H' w v → Q v H'
noncomputable def SOl (f : List W → Mem → R W) : List V → Hp → VK → Prop := fun xs H Q => ∃ β m ws w m', Rel X.K cl β m H ∧ RWs X.K β H ws xs ∧ f ws m = .ok w m' ∧ ∀ β' H' v, Ext β H β' H' → Rel X.K cl β' m' H' → RW X.K β' H' w v → Q v H'
end
theorem PE.imp {X : L2.Cx} {e : Expr} {t t' : TE} (h : PE X e t) (i : ∀ σ H Q, t' σ H Q → t σ H Q) : PE X e t' := fun pins s σ H Q I q => h pins s σ H Q I (i σ H Q q)
theorem PT.imp {X : L2.Cx} {e : Expr} {t t' : TT} (h : PT X e t) (i : ∀ σ H Q, t' σ H Q → t σ H Q) : PT X e t' := fun pins s σ H Q I q => h pins s σ H Q I (i σ H Q q)
theorem PW.imp {X : L2.Cx} {e : Expr} {t t' : TT} (h : PW X e t) (i : ∀ σ H Q, t' σ H Q → t σ H Q) : PW X e t' := fun wh pins s σ H Q I q => h wh pins s σ H Q I (i σ H Q q)
theorem PA.imp {X : L2.Cx} {e : List Expr} {t t' : TA} (h : PA X e t) (i : ∀ σ H Q, t' σ H Q → t σ H Q) : PA X e t' := fun pos pins s σ H Q I q => h pos pins s σ H Q I (i σ H Q q)
theorem PO.imp {X : L2.Cx} {e : Option Expr} {t t' : TO} (h : PO X e t) (i : ∀ σ H Q, t' σ H Q → t σ H Q) : PO X e t' := fun pins s σ H Q I q => h pins s σ H Q I (i σ H Q q)
section
variable {X : L2.Cx} {cl : Cl}
theorem op_catT0 : OpR X (binaryOp .Add) (fun x y H Q => ∃ a b ys, x = .ref a ∧ y = .ref b ∧ SqT X.K H a [] ∧ SqT X.K H b ys ∧ Q (.ref b) H) := by
 intro pins s σ H x y v u Q I rx ry h
 obtain ⟨a, b, ys, rfl, rfl, h1, h2, q⟩ := h
 cases rx; cases ry
 obtain ⟨its, rv, p1, _⟩ := I.tuple h1
 obtain ⟨its2, rv2, p2, _⟩ := I.tuple h2
 cases rv
 obtain ⟨⟨cls, dd, data, sl⟩, ho, hc, n, hd⟩ := id p1
 obtain ⟨⟨cls2, dd2, data2, sl2⟩, ho2, hc2, n2, hd2⟩ := id p2
 simp only at hc hd hc2 hd2
 subst hc hd hc2 hd2
 exact concat_meets ⟨_, ho, rfl⟩ ⟨_, ho2, rfl⟩ noFill_tuple_add seq_tuple_add PySem.F.slot_tuple_add PySem.F.entry_tuple_add (PySem.F.args_tuple_add_2 _ _)
   (tuple_addW0 a b _ its2.toArray n n2 dd dd2 sl sl2 (by simp)) ⟨ho, ho2, ⟨.ref b, H, I, rfl, q⟩⟩
theorem op_catL : OpR X (binaryOp .Add) (fun x y H Q => ∃ a b xs ys, x = .ref a ∧ y = .ref b ∧ SqL X.K H a xs ∧ SqL X.K H b ys ∧ xs.length + ys.length ≤ sizeLine ∧ ∀ p, H p = none → Q (.ref p) (upd H p (.lst (xs ++ ys)))) := by
 intro pins s σ H x y v u Q I rx ry h
 obtain ⟨a, b, xs, ys, rfl, rfl, h1, h2, hz, q⟩ := h
 cases rx; cases ry
 obtain ⟨its, rv, p1, _⟩ := I.list h1
 obtain ⟨its2, rv2, p2, _⟩ := I.list h2
 obtain ⟨⟨cls, dd, data, sl⟩, n, ho, hc, hdd, hd⟩ := id p1
 obtain ⟨⟨cls2, dd2, data2, sl2⟩, n2, ho2, hc2, hdd2, hd2⟩ := id p2
 simp only at hc hd hc2 hd2
 subst hc hd hc2 hd2
 have l1 := rv.length
 have l2 := rv2.length
 have ea : its.toArray ++ its2.toArray = (its ++ its2).toArray := by simp
 refine concat_meets ⟨_, ho, rfl⟩ ⟨_, ho2, rfl⟩ noFill_list_add seq_list_add PySem.F.slot_list_add PySem.F.entry_list_add (PySem.F.args_list_add_2 _ _)
   (list_addW a b its.toArray its2.toArray n n2 dd dd2 sl sl2 (by rw [List.size_toArray, List.size_toArray]; omega)) ⟨ho, ho2, ?_⟩
 rw [ea]
 exact ⟨.ref _, _, I.lnew (t' := s.toks) (rv.append rv2) (by rw [List.length_append]; omega), rfl, q _ I.fresh⟩
theorem so_bin (op : Operator) : OpR X (binaryOp op) (SO2 X cl (binop op)) := by
 intro pins s σ H x y v u Q I rx ry h
 obtain ⟨β, m, wx, wy, w, m', r, qx, qy, e, k⟩ := h
 unfold binop at e
 split at e
 ·
  split at e
  ·cases e; cases qx; cases qy
   exact op_add pins s σ H _ _ v u Q I rx ry ⟨_, _, rfl, rfl, k _ _ _ Ext.refl r (.int _)⟩
  ·rename_i xs ys
   split at e
   ·rename_i hm
    cases e
    cases qx with
    | tup h1 t1 =>
     cases qy with
     | tup h2 t2 =>
      rename_i a vs b us
      cases t1 with
      | nil => exact op_catT0 pins s σ H _ _ v u Q I rx ry ⟨_, _, _, rfl, rfl, h1, h2, k _ _ _ Ext.refl r (.tup h2 (by simpa using t2))⟩
      | cons t1 tt1 =>
       rename_i w1 v1 ws1 vs1
       have hl : (v1 :: vs1).length + us.length ≤ lim := by
        rw [← (RWs.cons t1 tt1).length, ← t2.length]; exact hm
       refine op_catT pins s σ H _ _ v u Q I rx ry ⟨_, _, _, _, rfl, rfl, h1, h2, by simp, Nat.le_trans hl lim_line, fun z => ?_, fun z p hp => ?_⟩
       ·subst z
        cases t2
        exact k _ _ _ Ext.refl r (.tup h1 (by simpa using RWs.cons t1 tt1))
       ·obtain ⟨x', r'⟩ := r.newT hp (v1 :: vs1 ++ us)
        refine k _ _ _ x' r' (.tup (.of upd_same) ?_)
        exact ((RWs.cons t1 tt1).append t2).mono r x'
   ·cases e
  ·split at e
   ·rename_i hm
    cases e; cases qx; cases qy
    exact op_add_str pins s σ H _ _ v u Q I rx ry ⟨_, _, rfl, rfl, Nat.le_trans hm lim_line, k _ _ _ Ext.refl r (.str _)⟩
   ·cases e
  ·unfold catL at e
   split at e
   ·rename_i xs ys e1 e2
    split at e
    ·rename_i hm
     cases e
     obtain ⟨a, vs, rfl, h1, t1⟩ := r.getL qx e1
     obtain ⟨b, us, rfl, h2, t2⟩ := r.getL qy e2
     refine op_catL pins s σ H _ _ v u Q I rx ry ⟨_, _, _, _, rfl, rfl, h1, h2, ?_, fun p hp => ?_⟩
     ·rw [← t1.length, ← t2.length]; exact Nat.le_trans hm lim_line
     ·obtain ⟨x', r'⟩ := r.newL hp (t1.append t2)
      exact k _ _ _ x' r' (.ref (r.last p))
    ·cases e
   ·cases e
 ·
  split at e
  ·cases e; cases qx; cases qy
   exact op_sub pins s σ H _ _ v u Q I rx ry ⟨_, _, rfl, rfl, k _ _ _ Ext.refl r (.int _)⟩
  ·cases e
 ·
  split at e
  ·split at e
   ·rename_i hm
    cases e; cases qx; cases qy
    refine op_mul pins s σ H _ _ v u Q I rx ry ⟨_, _, rfl, rfl, ?_, k _ _ _ Ext.refl r (.int _)⟩
    simpa [mulOk, CMul] using hm
   ·cases e
  ·cases e
 ·split at e
  ·split at e
   ·rename_i hm
    cases e; cases qx; cases qy
    exact op_fdiv pins s σ H _ _ v u Q I rx ry ⟨_, _, rfl, rfl, hm, k _ _ _ Ext.refl r (.int _)⟩
   ·cases e
  ·cases e
 ·split at e
  ·split at e
   ·rename_i hm
    cases e; cases qx; cases qy
    exact op_mod pins s σ H _ _ v u Q I rx ry ⟨_, _, rfl, rfl, hm, k _ _ _ Ext.refl r (.int _)⟩
   ·cases e
  ·cases e
 ·split at e
  ·split at e
   ·rename_i hm
    cases e; cases qx; cases qy
    exact op_pow pins s σ H _ _ v u Q I rx ry ⟨_, _, rfl, rfl, hm, k _ _ _ Ext.refl r (.int _)⟩
   ·cases e
  ·cases e
 ·split at e
  ·split at e
   ·rename_i hm
    cases e; cases qx; cases qy
    exact op_shl pins s σ H _ _ v u Q I rx ry ⟨_, _, rfl, rfl, hm, k _ _ _ Ext.refl r (.int _)⟩
   ·cases e
  ·cases e
 ·split at e
  ·split at e
   ·rename_i hm
    cases e; cases qx; cases qy
    exact op_shr pins s σ H _ _ v u Q I rx ry ⟨_, _, rfl, rfl, hm, k _ _ _ Ext.refl r (.int _)⟩
   ·cases e
  ·cases e
 ·split at e
  ·cases e; cases qx; cases qy
   exact op_and pins s σ H _ _ v u Q I rx ry ⟨_, _, rfl, rfl, k _ _ _ Ext.refl r (.int _)⟩
  ·cases e
 ·cases e
theorem so_eq (hu : UN X cl) : OpR X (compareOp .Eq) (SO2 X cl fun x y m => (eqW m x y).bind fun c m => .ok (.bl c) m) := by
 intro pins s σ H x y v u Q I rx ry h
 obtain ⟨β, m, wx, wy, w, m', r, qx, qy, e, k⟩ := h
 obtain ⟨c, m1, e1, e2⟩ := R.bind_ok e
 cases e2
 unfold eqW at e1
 split at e1
 ·rename_i d1 d2 f1 f2
  cases e1
  exact op_eqD hu.un pins s σ H _ _ v u Q I rx ry ⟨_, _, toD_dt r _ qx f1, toD_dt r _ qy f2, (toD_lay _ f1).1, (toD_lay _ f2).1, (toD_lay _ f1).2, k _ _ _ Ext.refl r (.bl _)⟩
 ·cases e1
theorem so_ne (hu : UN X cl) : OpR X (compareOp .NotEq) (SO2 X cl fun x y m => ((eqW m x y).bind fun b m => .ok (!b) m).bind fun c m => .ok (.bl c) m) := by
 intro pins s σ H x y v u Q I rx ry h
 obtain ⟨β, m, wx, wy, w, m', r, qx, qy, e, k⟩ := h
 obtain ⟨c, m1, e1, e2⟩ := R.bind_ok e
 cases e2
 obtain ⟨c, m1, e1, e2⟩ := R.bind_ok e1
 cases e2
 unfold eqW at e1
 split at e1
 ·rename_i d1 d2 f1 f2
  cases e1
  exact op_neD hu.un pins s σ H _ _ v u Q I rx ry ⟨_, _, toD_dt r _ qx f1, toD_dt r _ qy f2, (toD_lay _ f1).1, (toD_lay _ f2).1, (toD_lay _ f1).2, k _ _ _ Ext.refl r (.bl _)⟩
 ·cases e1
theorem so_mem (hu : UN X cl) (neg : Bool) {pins : List (Addr × Obj)} {s : Shared} {σ : L2.St} {H : Hp} {x y : V} {v u : Value} {Q : VK} {β : List Addr} {m m' : Mem} {wx wy : W} {ys : List W} {c : Bool} (I : Inv X pins σ H s) (rx : RelV x v) (ry : RelV y u)
  (r : Rel X.K cl β m H) (qx : RW X.K β H wx x) (qy : RW X.K β H wy y) (e1 : getS m wy = some ys) (e2 : memW m wx ys = .ok c m') (k : m' = m → Q (.bl (if neg then !c else c)) H) :
  wpAny (model X.prog X.w) X.A (compareOp (if neg then .NotIn else .In) v u) (EP X pins σ Q) X.xe s := by
 obtain ⟨a, vs, rfl, hs, t⟩ := r.getS qy e1
 cases ry
 unfold memW at e2
 split at e2
 ·rename_i d es f1 f2
  cases e2
  have k := k rfl
  obtain ⟨l1, l2⟩ := toD_lay _ f1
  obtain ⟨l3, l4⟩ := allD_all (fun w d e => toD_lay 60 e) f2
  have ds : Dts X.K H vs es := allD_dts (fun w v d _ q e => toD_dt r _ q e) t f2
  obtain ⟨as, ra⟩ := I.reads (toD_dt r _ qx f1) rx
  have hu' : X.A.units + 1 + min (PyData.depthAll es) d.depth < cLine := by
   have : min (PyData.depthAll es) d.depth ≤ d.depth := Nat.min_le_right _ _
   have := hu.un
   omega
  rcases hs with hs | hs
  ·obtain ⟨bs, rb⟩ := I.reads (Dt.lst hs ds) (u := Value.ref a) rfl
   cases neg with
   | false => exact SeqAt.in_list_reads rb ra l3 l1 hu' ⟨.bl _, H, I, rfl, k⟩
   | true => exact SeqAt.notIn_list_reads rb ra l3 l1 hu' ⟨.bl _, H, I, rfl, k⟩
  ·obtain ⟨bs, rb⟩ := I.reads (Dt.tup hs ds) (u := Value.ref a) rfl
   cases neg with
   | false => exact SeqAt.in_tuple_reads rb ra l3 l1 hu' ⟨.bl _, H, I, rfl, k⟩
   | true => exact SeqAt.notIn_tuple_reads rb ra l3 l1 hu' ⟨.bl _, H, I, rfl, k⟩
 ·cases e2
theorem keyW_rel {K : PySem.W.Frag} {β : List Addr} {H : Hp} {w : W} {v : V} {k : L2.Key} (q : RW K β H w v) (e : keyW w = some k) : v = kV k := by
 cases q with
 | int i => cases e; rfl
 | str x => cases e; rfl
 | _ => cases e
theorem so_in (hu : UN X cl) : OpR X (compareOp .In) (SO2 X cl fun x y m => (inop m x y).bind fun c m => .ok (.bl c) m) := by
 rintro pins s σ H x y v u Q I rx ry ⟨β, m, wx, wy, w, m', r, qx, qy, e, k⟩
 obtain ⟨c, m1, e1, e2⟩ := R.bind_ok e
 cases e2
 unfold inop at e1
 split at e1
 ·split at e1
  ·cases e1; cases qx; cases qy
   exact op_in_str pins s σ H _ _ v u Q I rx ry ⟨_, _, rfl, rfl, k _ _ _ Ext.refl r (.bl _)⟩
  ·cases e1
 ·rename_i n
  split at e1
  ·rename_i ys e0
   exact so_mem hu false I rx ry r qx qy (by simp [getS, getL, e0]) e1 fun z => by subst z; exact k _ _ _ Ext.refl r (.bl _)
  ·rename_i ks e0
   split at e1
   ·rename_i kk e3
    cases e1
    cases qy with
    | ref hb =>
     obtain ⟨S, hS, hk⟩ := r.obj e0 hb
     rw [hu.P, hu.w] at hS
     refine op_in_set pins s σ H _ _ v u Q I rx ry ⟨_, S, _, kk, rfl, keyW_rel qx e3, hS, ?_⟩
     rw [hk]
     exact k _ _ _ Ext.refl r (.bl _)
   ·cases e1
  ·cases e1
 ·exact so_mem hu false I rx ry r qx qy rfl e1 fun z => by subst z; exact k _ _ _ Ext.refl r (.bl _)
 ·exact so_mem hu false I rx ry r qx qy rfl e1 fun z => by subst z; exact k _ _ _ Ext.refl r (.bl _)
 ·cases e1
theorem non_dec {K : PySem.W.Frag} {β : List Addr} {H : Hp} {w : W} {v : V} (q : RW K β H w v) : decide (v = .non) = isNon w := by
 cases q <;> first | rfl | exact decide_eq_false (fun z => nomatch z)
theorem so_cmp (hu : UN X cl) (op : CmpOp) : OpR X (compareOp op) (SO2 X cl fun x y m => (cmpop op x y m).bind fun c m => .ok (.bl c) m) := by
 cases op with
 | Eq => exact so_eq hu
 | NotEq => exact so_ne hu
 | Lt =>
  rintro pins s σ H x y v u Q I rx ry ⟨β, m, wx, wy, w, m', r, qx, qy, e, k⟩
  obtain ⟨c, m1, e1, e2⟩ := R.bind_ok e
  cases e2
  unfold cmpop at e1
  dsimp only at e1
  split at e1
  ·cases e1; cases qx; cases qy
   exact op_lt pins s σ H _ _ v u Q I rx ry ⟨_, _, rfl, rfl, k _ _ _ Ext.refl r (.bl _)⟩
  ·cases e1; cases qx; cases qy
   exact op_lt_str pins s σ H _ _ v u Q I rx ry ⟨_, _, rfl, rfl, k _ _ _ Ext.refl r (.bl _)⟩
  ·cases e1
 | LtE =>
  rintro pins s σ H x y v u Q I rx ry ⟨β, m, wx, wy, w, m', r, qx, qy, e, k⟩
  obtain ⟨c, m1, e1, e2⟩ := R.bind_ok e
  cases e2
  unfold cmpop at e1
  dsimp only at e1
  split at e1
  ·cases e1; cases qx; cases qy
   exact op_le pins s σ H _ _ v u Q I rx ry ⟨_, _, rfl, rfl, k _ _ _ Ext.refl r (.bl _)⟩
  ·cases e1; cases qx; cases qy
   exact op_le_str pins s σ H _ _ v u Q I rx ry ⟨_, _, rfl, rfl, k _ _ _ Ext.refl r (.bl _)⟩
  ·cases e1
 | Gt =>
  rintro pins s σ H x y v u Q I rx ry ⟨β, m, wx, wy, w, m', r, qx, qy, e, k⟩
  obtain ⟨c, m1, e1, e2⟩ := R.bind_ok e
  cases e2
  unfold cmpop at e1
  dsimp only at e1
  split at e1
  ·cases e1; cases qx; cases qy
   exact op_gt pins s σ H _ _ v u Q I rx ry ⟨_, _, rfl, rfl, k _ _ _ Ext.refl r (.bl _)⟩
  ·cases e1
 | GtE =>
  rintro pins s σ H x y v u Q I rx ry ⟨β, m, wx, wy, w, m', r, qx, qy, e, k⟩
  obtain ⟨c, m1, e1, e2⟩ := R.bind_ok e
  cases e2
  unfold cmpop at e1
  dsimp only at e1
  split at e1
  ·cases e1; cases qx; cases qy
   exact op_ge pins s σ H _ _ v u Q I rx ry ⟨_, _, rfl, rfl, k _ _ _ Ext.refl r (.bl _)⟩
  ·cases e1
 | Is =>
  rintro pins s σ H x y v u Q I rx ry ⟨β, m, wx, wy, w, m', r, qx, qy, e, k⟩
  obtain ⟨c, m1, e1, e2⟩ := R.bind_ok e
  cases e2
  unfold cmpop at e1
  dsimp only at e1
  split at e1
  ·cases e1; cases qy
   refine op_isN pins s σ H _ _ v u Q I rx ry ⟨rfl, ?_⟩
   rw [non_dec qx]
   exact k _ _ _ Ext.refl r (.bl _)
  ·cases e1
 | IsNot =>
  rintro pins s σ H x y v u Q I rx ry ⟨β, m, wx, wy, w, m', r, qx, qy, e, k⟩
  obtain ⟨c, m1, e1, e2⟩ := R.bind_ok e
  cases e2
  unfold cmpop at e1
  dsimp only at e1
  split at e1
  ·cases e1; cases qy
   refine op_notN pins s σ H _ _ v u Q I rx ry ⟨rfl, ?_⟩
   rw [non_dec qx]
   exact k _ _ _ Ext.refl r (.bl _)
  ·cases e1
 | In => exact so_in hu
 | NotIn =>
  rintro pins s σ H x y v u Q I rx ry ⟨β, m, wx, wy, w, m', r, qx, qy, e, k⟩
  obtain ⟨c, m1, e1, e2⟩ := R.bind_ok e
  cases e2
  unfold cmpop at e1
  dsimp only at e1
  split at e1
  ·rename_i n
   split at e1
   ·rename_i ys e0
    obtain ⟨c', m2, e3, e4⟩ := R.bind_ok e1
    cases e4
    exact so_mem hu true I rx ry r qx qy (by simp [getS, getL, e0]) e3 fun z => by subst z; exact k _ _ _ Ext.refl r (.bl _)
   ·cases e1
  ·obtain ⟨c', m2, e3, e4⟩ := R.bind_ok e1
   cases e4
   exact so_mem hu true I rx ry r qx qy rfl e3 fun z => by subst z; exact k _ _ _ Ext.refl r (.bl _)
  ·obtain ⟨c', m2, e3, e4⟩ := R.bind_ok e1
   cases e4
   exact so_mem hu true I rx ry r qx qy rfl e3 fun z => by subst z; exact k _ _ _ Ext.refl r (.bl _)
  ·cases e1
theorem atI_rel {K : PySem.W.Frag} {β : List Addr} {H : Hp} {ws : List W} {vs : List V} {i : Int} {w : W} (t : RWs K β H ws vs) (e : atI ws i = some w) : ∃ v, atI vs i = some v ∧ RW K β H w v := by
 unfold atI at e ⊢
 rw [← t.length]
 cases h : ixN ws.length i with
 | none => rw [h] at e; cases e
 | some j => rw [h] at e; exact t.get e
theorem so_idx : IxR X (SO2 X cl idxop) := by
 intro value slice pins s σ H x y v u Q I rx ry h hs
 obtain ⟨β, m, wx, wy, w, m', r, qx, qy, e, k⟩ := h
 unfold idxop at e
 split at e
 ·rename_i i
  split at e
  ·split at e
   ·rename_i hl
    split at e
    ·rename_i c e2
     cases e; cases qx; cases qy
     exact ix_str value slice pins s σ H _ _ v u Q I rx ry ⟨_, _, _, rfl, rfl, Nat.le_trans hl lim_line, e2, k _ _ _ Ext.refl r (.str _)⟩ hs
    ·cases e
   ·cases e
  ·split at e
   ·rename_i ws e1
    split at e
    ·rename_i w' e2
     cases e; cases qy
     obtain ⟨a, vs, rfl, hq, t⟩ := r.getS qx e1
     obtain ⟨z, e3, qz⟩ := atI_rel t e2
     rcases hq with hq | hq
     ·exact ix_list value slice pins s σ H _ _ v u Q I rx ry ⟨_, _, _, _, rfl, rfl, hq, e3, k _ _ _ Ext.refl r qz⟩ hs
     ·exact ix_tup value slice pins s σ H _ _ v u Q I rx ry ⟨_, _, _, _, rfl, rfl, hq, e3, k _ _ _ Ext.refl r qz⟩ hs
    ·cases e
   ·cases e
 ·cases e
end
end D
end
section
set_option Elab.async false
set_option linter.all false
set_option maxRecDepth 100000
set_option autoImplicit false
namespace D
open PySem PySem.Spec PyProof.Rows L2
section
variable {X : L2.Cx} {cl : Cl} {C : D.Cx} {pos : Pos}
theorem s_var {i : Nat} {x : Str} (hN : X.N[i]? = some x) (hv : Vis X.env.scope x) (hd : (x == ("__debug__" : Str)) = false) (hcd : (x == ("__classdict__" : Str)) = false) : PE X (.Name x pos) (SE X cl (evE C (.var i))) := by
 refine PE.imp (pe_var hN hv hd hcd) ?_
 rintro σ H Q ⟨β, ρ, m, w, m', r, l, e, k⟩
 simp only [sE_var, sE_cst, sE_bin, sE_neg, sE_not, sE_and, sE_or, sE_cmp, sE_chain, sE_ife, sE_tup, sE_lst, sE_idx, sE_slc, sE_call, sE_blt, sE_isI, sE_meth, sE_comp, sE_lrng, sE_frz, sE_fld, sE_make, sE_mth, sE_set0, sE_sset] at e
 split at e
 ·rename_i w' e1
  cases e
  obtain ⟨v, e2, q⟩ := l.at_ e1
  exact ⟨v, e2, k _ _ _ Ext.refl r q⟩
 ·cases e
theorem s_int {i : Int} {j : Nat} : PE X (.Constant (.int i) j pos) (SE X cl (evE C (.cst (.int i)))) := by
 refine PE.imp pe_int ?_
 rintro σ H Q ⟨β, ρ, m, w, m', r, l, e, k⟩
 simp only [sE_var, sE_cst, sE_bin, sE_neg, sE_not, sE_and, sE_or, sE_cmp, sE_chain, sE_ife, sE_tup, sE_lst, sE_idx, sE_slc, sE_call, sE_blt, sE_isI, sE_meth, sE_comp, sE_lrng, sE_frz, sE_fld, sE_make, sE_mth, sE_set0, sE_sset] at e
 cases e
 exact k _ _ _ Ext.refl r (.int i)
theorem s_bl {i : Bool} {j : Nat} : PE X (.Constant (.bool i) j pos) (SE X cl (evE C (.cst (.bl i)))) := by
 refine PE.imp pe_bl ?_
 rintro σ H Q ⟨β, ρ, m, w, m', r, l, e, k⟩
 simp only [sE_var, sE_cst, sE_bin, sE_neg, sE_not, sE_and, sE_or, sE_cmp, sE_chain, sE_ife, sE_tup, sE_lst, sE_idx, sE_slc, sE_call, sE_blt, sE_isI, sE_meth, sE_comp, sE_lrng, sE_frz, sE_fld, sE_make, sE_mth, sE_set0, sE_sset] at e
 cases e
 exact k _ _ _ Ext.refl r (.bl i)
theorem s_non {j : Nat} : PE X (.Constant .none j pos) (SE X cl (evE C (.cst .non))) := by
 refine PE.imp pe_non ?_
 rintro σ H Q ⟨β, ρ, m, w, m', r, l, e, k⟩
 simp only [sE_var, sE_cst, sE_bin, sE_neg, sE_not, sE_and, sE_or, sE_cmp, sE_chain, sE_ife, sE_tup, sE_lst, sE_idx, sE_slc, sE_call, sE_blt, sE_isI, sE_meth, sE_comp, sE_lrng, sE_frz, sE_fld, sE_make, sE_mth, sE_set0, sE_sset] at e
 cases e
 exact k _ _ _ Ext.refl r .non
theorem s_str {x : Str} {j : Nat} : PE X (.Constant (.str x) j pos) (SE X cl (evE C (.cst (.str x)))) := by
 refine PE.imp pe_str ?_
 rintro σ H Q ⟨β, ρ, m, w, m', r, l, e, k⟩
 simp only [sE_var, sE_cst, sE_bin, sE_neg, sE_not, sE_and, sE_or, sE_cmp, sE_chain, sE_ife, sE_tup, sE_lst, sE_idx, sE_slc, sE_call, sE_blt, sE_isI, sE_meth, sE_comp, sE_lrng, sE_frz, sE_fld, sE_make, sE_mth, sE_set0, sE_sset] at e
 cases e
 exact k _ _ _ Ext.refl r (.str x)
theorem s_glb {x : Str} {w : W} (hg : Gl X x) (h : ∃ u v, X.mg x = some u ∧ RelV v u ∧ ∀ β H, RW X.K β H w v) (hd : (x == ("__debug__" : Str)) = false) : PE X (.Name x pos) (SE X cl (evE C (.cst w))) := by
 obtain ⟨u, v, h1, h2, h3⟩ := h
 refine PE.imp (pe_glob hg h1 h2 hd) ?_
 rintro σ H Q ⟨β, ρ, m, w, m', r, l, e, k⟩
 simp only [sE_var, sE_cst, sE_bin, sE_neg, sE_not, sE_and, sE_or, sE_cmp, sE_chain, sE_ife, sE_tup, sE_lst, sE_idx, sE_slc, sE_call, sE_blt, sE_isI, sE_meth, sE_comp, sE_lrng, sE_frz, sE_fld, sE_make, sE_mth, sE_set0, sE_sset] at e
 cases e
 exact k _ _ _ Ext.refl r (h3 _ _)
variable {a b c : Expr} {da db dc : E}
theorem s_bin {op : Operator} (ha : PE X a (SE X cl (evE C da))) (hb : PE X b (SE X cl (evE C db))) : PE X (.BinOp a op b pos) (SE X cl (evE C (.bin op da db))) := by
 refine PE.imp (pe_op (so_bin (cl := cl) op) ha hb) ?_
 rintro σ H Q ⟨β, ρ, m, w, m', r, l, e, k⟩
 simp only [sE_var, sE_cst, sE_bin, sE_neg, sE_not, sE_and, sE_or, sE_cmp, sE_chain, sE_ife, sE_tup, sE_lst, sE_idx, sE_slc, sE_call, sE_blt, sE_isI, sE_meth, sE_comp, sE_lrng, sE_frz, sE_fld, sE_make, sE_mth, sE_set0, sE_sset] at e
 obtain ⟨x, m1, e1, e⟩ := R.bind_ok e
 obtain ⟨y, m2, e2, e⟩ := R.bind_ok e
 refine ⟨β, ρ, m, x, m1, r, l, e1, fun β1 H1 v1 x1 r1 q1 => ?_⟩
 refine ⟨β1, ρ, m1, y, m2, r1, l.mono r x1, e2, fun β2 H2 v2 x2 r2 q2 => ?_⟩
 exact ⟨β2, m2, x, y, w, m', r2, q1.mono r1 x2, q2, e, fun β3 H3 v x3 r3 q3 => k β3 H3 v ((x1.trans r1 x2).trans r2 x3) r3 q3⟩
theorem s_cmp {op : CmpOp} (hu : UN X cl) (ha : PE X a (SE X cl (evE C da))) (hb : PE X b (SE X cl (evE C db))) (hm : behindInMarks op b = false) : PE X (.Compare a [op] [b] pos) (SE X cl (evE C (.cmp op da db))) := by
 refine PE.imp (pe_cmpR (so_cmp (cl := cl) hu op) ha hb hm) ?_
 rintro σ H Q ⟨β, ρ, m, w, m', r, l, e, k⟩
 simp only [sE_var, sE_cst, sE_bin, sE_neg, sE_not, sE_and, sE_or, sE_cmp, sE_chain, sE_ife, sE_tup, sE_lst, sE_idx, sE_slc, sE_call, sE_blt, sE_isI, sE_meth, sE_comp, sE_lrng, sE_frz, sE_fld, sE_make, sE_mth, sE_set0, sE_sset] at e
 obtain ⟨x, m1, e1, e⟩ := R.bind_ok e
 obtain ⟨y, m2, e2, e⟩ := R.bind_ok e
 refine ⟨β, ρ, m, x, m1, r, l, e1, fun β1 H1 v1 x1 r1 q1 => ?_⟩
 refine ⟨β1, ρ, m1, y, m2, r1, l.mono r x1, e2, fun β2 H2 v2 x2 r2 q2 => ?_⟩
 exact ⟨β2, m2, x, y, w, m', r2, q1.mono r1 x2, q2, e, fun β3 H3 v x3 r3 q3 => k β3 H3 v ((x1.trans r1 x2).trans r2 x3) r3 q3⟩
theorem t_cmp {op : CmpOp} (hu : UN X cl) (ha : PE X a (SE X cl (evE C da))) (hb : PE X b (SE X cl (evE C db))) (hm : behindInMarks op b = false) : PT X (.Compare a [op] [b] pos) (ST X cl (evT C (.cmp op da db))) := by
 refine PT.imp (pt_cmpR (so_cmp (cl := cl) hu op) ha hb hm) ?_
 rintro σ H Q ⟨β, ρ, m, w, m', r, l, e, k⟩
 simp only [sT_and, sT_or, sT_not, sT_cmp, sT_chain, sT_ife, sT_var, sT_cst, sT_bin, sT_neg, sT_tup, sT_lst, sT_idx, sT_slc, sT_call, sT_blt, sT_isI, sT_meth, sT_comp, sT_frz, sT_fld, sT_make, sT_mth, sT_set0] at e
 obtain ⟨x, m1, e1, e⟩ := R.bind_ok e
 obtain ⟨y, m2, e2, e⟩ := R.bind_ok e
 refine ⟨β, ρ, m, x, m1, r, l, e1, fun β1 H1 v1 x1 r1 q1 => ?_⟩
 refine ⟨β1, ρ, m1, y, m2, r1, l.mono r x1, e2, fun β2 H2 v2 x2 r2 q2 => ?_⟩
 refine ⟨β2, m2, x, y, .bl w, m', r2, q1.mono r1 x2, q2, by dsimp only; rw [e]; rfl, fun β3 H3 v x3 r3 q3 => ?_⟩
 cases q3
 exact ⟨w, rfl, k β3 H3 ((x1.trans r1 x2).trans r2 x3) r3⟩
theorem s_neg (ha : PE X a (SE X cl (evE C da))) : PE X (.UnaryOp .USub a pos) (SE X cl (evE C (.neg da))) := by
 refine PE.imp (pe_un un_neg ha) ?_
 rintro σ H Q ⟨β, ρ, m, w, m', r, l, e, k⟩
 simp only [sE_var, sE_cst, sE_bin, sE_neg, sE_not, sE_and, sE_or, sE_cmp, sE_chain, sE_ife, sE_tup, sE_lst, sE_idx, sE_slc, sE_call, sE_blt, sE_isI, sE_meth, sE_comp, sE_lrng, sE_frz, sE_fld, sE_make, sE_mth, sE_set0, sE_sset] at e
 obtain ⟨x, m1, e1, e⟩ := R.bind_ok e
 refine ⟨β, ρ, m, x, m1, r, l, e1, fun β1 H1 v1 x1 r1 q1 => ?_⟩
 split at e
 ·cases e; cases q1
  exact ⟨_, rfl, k _ _ _ x1 r1 (.int _)⟩
 ·cases e
theorem s_not (ha : PE X a (SE X cl (evE C da))) : PE X (.UnaryOp .Not a pos) (SE X cl (evE C (.not da))) := by
 refine PE.imp (pe_not ha) ?_
 rintro σ H Q ⟨β, ρ, m, w, m', r, l, e, k⟩
 simp only [sE_var, sE_cst, sE_bin, sE_neg, sE_not, sE_and, sE_or, sE_cmp, sE_chain, sE_ife, sE_tup, sE_lst, sE_idx, sE_slc, sE_call, sE_blt, sE_isI, sE_meth, sE_comp, sE_lrng, sE_frz, sE_fld, sE_make, sE_mth, sE_set0, sE_sset] at e
 obtain ⟨x, m1, e1, e⟩ := R.bind_ok e
 refine ⟨β, ρ, m, x, m1, r, l, e1, fun β1 H1 v1 x1 r1 q1 => ?_⟩
 split at e
 ·cases e; cases q1
  exact ⟨_, rfl, k _ _ _ x1 r1 (.bl _)⟩
 ·cases e
theorem t_not (ha : PT X a (ST X cl (evT C da))) : PT X (.UnaryOp .Not a pos) (ST X cl (evT C (.not da))) := by
 refine PT.imp (pt_not ha) ?_
 rintro σ H Q ⟨β, ρ, m, w, m', r, l, e, k⟩
 simp only [sT_and, sT_or, sT_not, sT_cmp, sT_chain, sT_ife, sT_var, sT_cst, sT_bin, sT_neg, sT_tup, sT_lst, sT_idx, sT_slc, sT_call, sT_blt, sT_isI, sT_meth, sT_comp, sT_frz, sT_fld, sT_make, sT_mth, sT_set0] at e
 obtain ⟨x, m1, e1, e⟩ := R.bind_ok e
 cases e
 exact ⟨β, ρ, m, x, _, r, l, e1, fun β1 H1 x1 r1 => k _ _ x1 r1⟩
variable {rest : List Expr}
theorem s_and (ha : PE X a (SE X cl (evE C da))) (hb : PE X (.BoolOp .And (b :: rest) pos) (SE X cl (evE C db))) : PE X (.BoolOp .And (a :: b :: rest) pos) (SE X cl (evE C (.and da db))) := by
 refine PE.imp (pe_and ha hb) ?_
 rintro σ H Q ⟨β, ρ, m, w, m', r, l, e, k⟩
 simp only [sE_var, sE_cst, sE_bin, sE_neg, sE_not, sE_and, sE_or, sE_cmp, sE_chain, sE_ife, sE_tup, sE_lst, sE_idx, sE_slc, sE_call, sE_blt, sE_isI, sE_meth, sE_comp, sE_lrng, sE_frz, sE_fld, sE_make, sE_mth, sE_set0, sE_sset] at e
 obtain ⟨x, m1, e1, e⟩ := R.bind_ok e
 refine ⟨β, ρ, m, x, m1, r, l, e1, fun β1 H1 v1 x1 r1 q1 => ?_⟩
 split at e
 ·rename_i c
  cases q1
  refine ⟨c, rfl, ?_⟩
  split at e
  ·rename_i hc
   rw [if_pos hc]
   exact ⟨β1, ρ, m1, w, m', r1, l.mono r x1, e, fun β2 H2 v2 x2 r2 q2 => k _ _ _ (x1.trans r1 x2) r2 q2⟩
  ·rename_i hc
   rw [if_neg hc]
   cases e
   exact k _ _ _ x1 r1 (.bl _)
 ·cases e
theorem s_or (ha : PE X a (SE X cl (evE C da))) (hb : PE X (.BoolOp .Or (b :: rest) pos) (SE X cl (evE C db))) : PE X (.BoolOp .Or (a :: b :: rest) pos) (SE X cl (evE C (.or da db))) := by
 refine PE.imp (pe_or ha hb) ?_
 rintro σ H Q ⟨β, ρ, m, w, m', r, l, e, k⟩
 simp only [sE_var, sE_cst, sE_bin, sE_neg, sE_not, sE_and, sE_or, sE_cmp, sE_chain, sE_ife, sE_tup, sE_lst, sE_idx, sE_slc, sE_call, sE_blt, sE_isI, sE_meth, sE_comp, sE_lrng, sE_frz, sE_fld, sE_make, sE_mth, sE_set0, sE_sset] at e
 obtain ⟨x, m1, e1, e⟩ := R.bind_ok e
 refine ⟨β, ρ, m, x, m1, r, l, e1, fun β1 H1 v1 x1 r1 q1 => ?_⟩
 split at e
 ·rename_i c
  cases q1
  refine ⟨c, rfl, ?_⟩
  split at e
  ·rename_i hc
   rw [if_pos hc]
   cases e
   exact k _ _ _ x1 r1 (.bl _)
  ·rename_i hc
   rw [if_neg hc]
   exact ⟨β1, ρ, m1, w, m', r1, l.mono r x1, e, fun β2 H2 v2 x2 r2 q2 => k _ _ _ (x1.trans r1 x2) r2 q2⟩
 ·cases e
theorem w_and (ha : PT X a (ST X cl (evT C da))) (hb : PW X (.BoolOp .And (b :: rest) pos) (ST X cl (evT C db))) : PW X (.BoolOp .And (a :: b :: rest) pos) (ST X cl (evT C (.and da db))) := by
 refine PW.imp (pw_and ha hb) ?_
 rintro σ H Q ⟨β, ρ, m, w, m', r, l, e, k⟩
 simp only [sT_and, sT_or, sT_not, sT_cmp, sT_chain, sT_ife, sT_var, sT_cst, sT_bin, sT_neg, sT_tup, sT_lst, sT_idx, sT_slc, sT_call, sT_blt, sT_isI, sT_meth, sT_comp, sT_frz, sT_fld, sT_make, sT_mth, sT_set0] at e
 obtain ⟨x, m1, e1, e⟩ := R.bind_ok e
 refine ⟨β, ρ, m, x, m1, r, l, e1, fun β1 H1 x1 r1 => ?_⟩
 split at e
 ·rename_i hc
  rw [if_pos hc]
  exact ⟨β1, ρ, m1, w, m', r1, l.mono r x1, e, fun β2 H2 x2 r2 => k _ _ (x1.trans r1 x2) r2⟩
 ·rename_i hc
  rw [if_neg hc]
  cases e
  exact k _ _ x1 r1
theorem w_or (ha : PT X a (ST X cl (evT C da))) (hb : PW X (.BoolOp .Or (b :: rest) pos) (ST X cl (evT C db))) : PW X (.BoolOp .Or (a :: b :: rest) pos) (ST X cl (evT C (.or da db))) := by
 refine PW.imp (pw_or ha hb) ?_
 rintro σ H Q ⟨β, ρ, m, w, m', r, l, e, k⟩
 simp only [sT_and, sT_or, sT_not, sT_cmp, sT_chain, sT_ife, sT_var, sT_cst, sT_bin, sT_neg, sT_tup, sT_lst, sT_idx, sT_slc, sT_call, sT_blt, sT_isI, sT_meth, sT_comp, sT_frz, sT_fld, sT_make, sT_mth, sT_set0] at e
 obtain ⟨x, m1, e1, e⟩ := R.bind_ok e
 refine ⟨β, ρ, m, x, m1, r, l, e1, fun β1 H1 x1 r1 => ?_⟩
 split at e
 ·rename_i hc
  rw [if_pos hc]
  cases e
  exact k _ _ x1 r1
 ·rename_i hc
  rw [if_neg hc]
  exact ⟨β1, ρ, m1, w, m', r1, l.mono r x1, e, fun β2 H2 x2 r2 => k _ _ (x1.trans r1 x2) r2⟩
theorem truthy_ok {K : PySem.W.Frag} {β : List Addr} {m m' : Mem} {H : Hp} {w : W} {v : V} {b : Bool} (r : Rel K cl β m H) (q : RW K β H w v) (e : truthy m w = .ok b m') : m' = m ∧ TruV K v H b := by
 cases q with
 | non => cases e; exact ⟨rfl, rfl⟩
 | bl c => cases e; exact ⟨rfl, rfl⟩
 | int i => cases e; exact ⟨rfl, rfl⟩
 | str x =>
  simp only [truthy] at e
  split at e
  ·rename_i h
   cases e
   exact ⟨rfl, Nat.le_trans h lim_line, rfl⟩
  ·cases e
 | tup h t =>
  cases e
  refine ⟨rfl, .inr (.inl ⟨_, h, ?_⟩)⟩
  cases t <;> rfl
 | fz h t =>
  cases e
  refine ⟨rfl, .inl ⟨_, h.l, ?_⟩⟩
  cases t <;> rfl
 | obj h e0 t => cases e
 | ref h =>
  simp only [truthy] at e
  split at e
  ·rename_i xs e1
   cases e
   obtain ⟨a, vs, z, hs, t⟩ := r.getL (.ref h) e1
   cases z
   refine ⟨rfl, .inl ⟨_, hs, ?_⟩⟩
   cases t <;> rfl
  ·cases e
theorem t_val (ha : PE X a (SE X cl (evE C da))) (he : ∀ whole, isTrue a X.env whole = (do let v ← whole; standAt a.pos; holding [v] (PySem.truthy v))) (hd : ∀ ρ m, evT C da ρ m = (evE C da ρ m).bind fun w m => D.truthy m w) : PT X a (ST X cl (evT C da)) := by
 refine PT.imp (pt_truth ha he) ?_
 rintro σ H Q ⟨β, ρ, m, w, m', r, l, e, k⟩
 rw [hd] at e
 obtain ⟨x, m1, e1, e⟩ := R.bind_ok e
 refine ⟨β, ρ, m, x, m1, r, l, e1, fun β1 H1 v1 x1 r1 q1 => ?_⟩
 obtain ⟨rfl, z⟩ := truthy_ok r1 q1 e
 exact ⟨w, z, k _ _ x1 r1⟩
theorem s_ife {t : Expr} {dt : E} (ht : PT X t (ST X cl (evT C dt))) (ha : PE X a (SE X cl (evE C da))) (hb : PE X b (SE X cl (evE C db))) : PE X (.IfExp t a b pos) (SE X cl (evE C (.ife dt da db))) := by
 refine PE.imp (pe_ifExp ht ha hb) ?_
 rintro σ H Q ⟨β, ρ, m, w, m', r, l, e, k⟩
 simp only [sE_var, sE_cst, sE_bin, sE_neg, sE_not, sE_and, sE_or, sE_cmp, sE_chain, sE_ife, sE_tup, sE_lst, sE_idx, sE_slc, sE_call, sE_blt, sE_isI, sE_meth, sE_comp, sE_lrng, sE_frz, sE_fld, sE_make, sE_mth, sE_set0, sE_sset] at e
 obtain ⟨x, m1, e1, e⟩ := R.bind_ok e
 refine ⟨β, ρ, m, x, m1, r, l, e1, fun β1 H1 x1 r1 => ?_⟩
 split at e
 ·rename_i hc
  rw [if_pos hc]
  exact ⟨β1, ρ, m1, w, m', r1, l.mono r x1, e, fun β2 H2 v2 x2 r2 q2 => k _ _ _ (x1.trans r1 x2) r2 q2⟩
 ·rename_i hc
  rw [if_neg hc]
  exact ⟨β1, ρ, m1, w, m', r1, l.mono r x1, e, fun β2 H2 v2 x2 r2 q2 => k _ _ _ (x1.trans r1 x2) r2 q2⟩
theorem s_chain {o1 o2 : CmpOp} (hu : UN X cl) (ha : PE X a (SE X cl (evE C da))) (hb : PE X b (SE X cl (evE C db))) (hc : PE X c (SE X cl (evE C dc)))
  (h : PE X (.Compare a [o1, o2] [b, c] pos) (tChain (SO2 X cl fun x y m => (cmpop o1 x y m).bind fun c m => .ok (.bl c) m) (SO2 X cl fun x y m => (cmpop o2 x y m).bind fun c m => .ok (.bl c) m) (SE X cl (evE C da)) (SE X cl (evE C db)) (SE X cl (evE C dc)))) :
  PE X (.Compare a [o1, o2] [b, c] pos) (SE X cl (evE C (.chain o1 o2 da db dc))) := by
 refine PE.imp h ?_
 rintro σ H Q ⟨β, ρ, m, w, m', r, l, e, k⟩
 simp only [sE_var, sE_cst, sE_bin, sE_neg, sE_not, sE_and, sE_or, sE_cmp, sE_chain, sE_ife, sE_tup, sE_lst, sE_idx, sE_slc, sE_call, sE_blt, sE_isI, sE_meth, sE_comp, sE_lrng, sE_frz, sE_fld, sE_make, sE_mth, sE_set0, sE_sset] at e
 obtain ⟨x, m1, e1, e⟩ := R.bind_ok e
 obtain ⟨y, m2, e2, e⟩ := R.bind_ok e
 obtain ⟨z, m3, e3, e⟩ := R.bind_ok e
 refine ⟨β, ρ, m, x, m1, r, l, e1, fun β1 H1 v1 x1 r1 q1 => ?_⟩
 refine ⟨β1, ρ, m1, y, m2, r1, l.mono r x1, e2, fun β2 H2 v2 x2 r2 q2 => ?_⟩
 have l2 := (l.mono r x1).mono r1 x2
 refine ⟨β2, m2, x, y, .bl z, m3, r2, q1.mono r1 x2, q2, by dsimp only; rw [e3]; rfl, fun β3 H3 v3 x3 r3 q3 => ?_⟩
 cases q3
 refine ⟨z, rfl, ?_⟩
 have x03 := (x1.trans r1 x2).trans r2 x3
 split at e
 ·rename_i hc
  rw [if_pos hc]
  obtain ⟨u, m4, e4, e⟩ := R.bind_ok e
  refine ⟨β3, ρ, m3, u, m4, r3, l2.mono r2 x3, e4, fun β4 H4 v4 x4 r4 q4 => ?_⟩
  exact ⟨β4, m4, y, u, w, m', r4, (q2.mono r2 x3).mono r3 x4, q4, e, fun β5 H5 v5 x5 r5 q5 => k _ _ _ ((x03.trans r3 x4).trans r4 x5) r5 q5⟩
 ·rename_i hc
  rw [if_neg hc]
  cases e
  exact k _ _ _ x03 r3 (.bl _)
theorem a_nil : PA X [] (SA X cl (evEs C .nil)) := by
 refine PA.imp pa_nil ?_
 rintro σ H Q ⟨β, ρ, m, w, m', r, l, e, k⟩
 simp only [sEs_nil, sEs_cons] at e
 cases e
 exact k _ _ _ Ext.refl r .nil
theorem a_cons {es : List Expr} {d : E} {ds : Es} (ha : PE X a (SE X cl (evE C d))) (hr : PA X es (SA X cl (evEs C ds))) (hs : starEach (a :: es) X.env = (false, eval a X.env) :: starEach es X.env) : PA X (a :: es) (SA X cl (evEs C (.cons d ds))) := by
 refine PA.imp (pa_cons ha hr hs) ?_
 rintro σ H Q ⟨β, ρ, m, w, m', r, l, e, k⟩
 simp only [sEs_nil, sEs_cons] at e
 obtain ⟨x, m1, e1, e⟩ := R.bind_ok e
 obtain ⟨y, m2, e2, e⟩ := R.bind_ok e
 cases e
 refine ⟨β, ρ, m, x, m1, r, l, e1, fun β1 H1 v1 x1 r1 q1 => ?_⟩
 exact ⟨β1, ρ, m1, y, _, r1, l.mono r x1, e2, fun β2 H2 v2 x2 r2 q2 => k _ _ _ (x1.trans r1 x2) r2 (.cons (q1.mono r1 x2) q2)⟩
theorem s_tup {es : List Expr} {ds : Es} {x1} (ha : PA X es (SA X cl (evEs C ds))) : PE X (.Tuple es x1 pos) (SE X cl (evE C (.tup ds))) := by
 refine PE.imp (pe_tup ha) ?_
 rintro σ H Q ⟨β, ρ, m, w, m', r, l, e, k⟩
 simp only [sE_var, sE_cst, sE_bin, sE_neg, sE_not, sE_and, sE_or, sE_cmp, sE_chain, sE_ife, sE_tup, sE_lst, sE_idx, sE_slc, sE_call, sE_blt, sE_isI, sE_meth, sE_comp, sE_lrng, sE_frz, sE_fld, sE_make, sE_mth, sE_set0, sE_sset] at e
 obtain ⟨x, m1, e1, e⟩ := R.bind_ok e
 split at e
 ·rename_i hl
  cases e
  refine ⟨β, ρ, m, x, _, r, l, e1, fun β1 H1 v1 x1 r1 q1 => ⟨by rw [← q1.length]; exact Nat.le_trans hl lim_line, fun p hp => ?_⟩⟩
  obtain ⟨x2, r2⟩ := r1.newT hp v1
  exact k _ _ _ (x1.trans r1 x2) r2 (.tup (.of upd_same) (q1.mono r1 x2))
 ·cases e
theorem s_lst {es : List Expr} {ds : Es} (ha : PA X es (SA X cl (evEs C ds))) : PE X (.List es pos) (SE X cl (evE C (.lst ds))) := by
 refine PE.imp (pe_lst ha) ?_
 rintro σ H Q ⟨β, ρ, m, w, m', r, l, e, k⟩
 simp only [sE_var, sE_cst, sE_bin, sE_neg, sE_not, sE_and, sE_or, sE_cmp, sE_chain, sE_ife, sE_tup, sE_lst, sE_idx, sE_slc, sE_call, sE_blt, sE_isI, sE_meth, sE_comp, sE_lrng, sE_frz, sE_fld, sE_make, sE_mth, sE_set0, sE_sset] at e
 obtain ⟨x, m1, e1, e⟩ := R.bind_ok e
 split at e
 ·rename_i hl
  cases e
  refine ⟨β, ρ, m, x, _, r, l, e1, fun β1 H1 v1 x1 r1 q1 => ⟨by rw [← q1.length]; exact Nat.le_trans hl lim_line, fun p hp => ?_⟩⟩
  obtain ⟨x2, r2⟩ := r1.newL hp q1
  exact k _ _ _ (x1.trans r1 x2) r2 (.ref (r1.last p))
 ·cases e
theorem s_idx (ha : PE X a (SE X cl (evE C da))) (hb : PE X b (SE X cl (evE C db))) (hs : PlainIx b) : PE X (.Subscript a b pos) (SE X cl (evE C (.idx da db))) := by
 refine PE.imp (pe_ix (so_idx (cl := cl)) ha hb hs) ?_
 rintro σ H Q ⟨β, ρ, m, w, m', r, l, e, k⟩
 simp only [sE_var, sE_cst, sE_bin, sE_neg, sE_not, sE_and, sE_or, sE_cmp, sE_chain, sE_ife, sE_tup, sE_lst, sE_idx, sE_slc, sE_call, sE_blt, sE_isI, sE_meth, sE_comp, sE_lrng, sE_frz, sE_fld, sE_make, sE_mth, sE_set0, sE_sset] at e
 obtain ⟨x, m1, e1, e⟩ := R.bind_ok e
 obtain ⟨y, m2, e2, e⟩ := R.bind_ok e
 refine ⟨β, ρ, m, x, m1, r, l, e1, fun β1 H1 v1 x1 r1 q1 => ?_⟩
 refine ⟨β1, ρ, m1, y, m2, r1, l.mono r x1, e2, fun β2 H2 v2 x2 r2 q2 => ?_⟩
 exact ⟨β2, m2, x, y, w, m', r2, q1.mono r1 x2, q2, e, fun β3 H3 v x3 r3 q3 => k β3 H3 v ((x1.trans r1 x2).trans r2 x3) r3 q3⟩
theorem o_none : PO X none (SOo X cl (evO C .none)) := by
 refine PO.imp po_none ?_
 rintro σ H Q ⟨β, ρ, m, w, m', r, l, e, k⟩
 simp only [sO_none, sO_some] at e
 cases e
 exact k _ _ Ext.refl r
theorem o_some (ha : PE X a (SE X cl (evE C da))) : PO X (some a) (SOo X cl (evO C (.some da))) := by
 refine PO.imp (po_some ha) ?_
 rintro σ H Q ⟨β, ρ, m, w, m', r, l, e, k⟩
 simp only [sO_none, sO_some] at e
 obtain ⟨x, m1, e1, e⟩ := R.bind_ok e
 refine ⟨β, ρ, m, x, m1, r, l, e1, fun β1 H1 v1 x1 r1 q1 => ?_⟩
 split at e
 ·cases e; cases q1
  exact ⟨_, rfl, k _ _ x1 r1⟩
 ·cases e
theorem cut_rel {K : PySem.W.Frag} {β : List Addr} {H : Hp} {ws : List W} {vs : List V} {lo hi : Option Int} (t : RWs K β H ws vs) : RWs K β H (cutW ws lo hi) (cutV vs lo hi) := by
 unfold cutW cutV
 rw [← t.length]
 exact (t.drop _).take _
theorem so_slc : SlR X (fun x lo hi H Q => ∃ β m wx w m', Rel X.K cl β m H ∧ RW X.K β H wx x ∧ slcop wx lo hi m = .ok w m' ∧ ∀ β' H' v, Ext β H β' H' → Rel X.K cl β' m' H' → RW X.K β' H' w v → Q v H') := by
 intro pins s σ H x v vl vu lo hi sl Q I rx hs pl pu h
 obtain ⟨β, m, wx, w, m', r, q, e, k⟩ := h
 unfold slcop at e
 split at e
 ·split at e
  ·rename_i hl
   cases e; cases q
   exact sl_str pins s σ H _ v vl vu lo hi sl Q I rx hs pl pu ⟨_, rfl, Nat.le_trans hl lim_line, k _ _ _ Ext.refl r (.str _)⟩
  ·cases e
 ·split at e
  ·rename_i xs e1
   cases e
   obtain ⟨a, vs, rfl, hs', t⟩ := r.getL q e1
   refine sl_list pins s σ H _ v vl vu lo hi sl Q I rx hs pl pu ⟨_, _, rfl, hs', fun p hp => ?_⟩
   obtain ⟨x2, r2⟩ := r.newL hp (cut_rel t)
   exact k _ _ _ x2 r2 (.ref (r.last p))
  ·cases e
theorem s_slc {lo hi : Option Expr} {dl dh : Oe} {p2 : Pos} (ha : PE X a (SE X cl (evE C da))) (hl : PO X lo (SOo X cl (evO C dl))) (hh : PO X hi (SOo X cl (evO C dh))) : PE X (.Subscript a (.Slice lo hi none p2) pos) (SE X cl (evE C (.slc da dl dh))) := by
 refine PE.imp (pe_slice (so_slc (cl := cl)) ha hl hh) ?_
 rintro σ H Q ⟨β, ρ, m, w, m', r, l, e, k⟩
 simp only [sE_var, sE_cst, sE_bin, sE_neg, sE_not, sE_and, sE_or, sE_cmp, sE_chain, sE_ife, sE_tup, sE_lst, sE_idx, sE_slc, sE_call, sE_blt, sE_isI, sE_meth, sE_comp, sE_lrng, sE_frz, sE_fld, sE_make, sE_mth, sE_set0, sE_sset] at e
 obtain ⟨x, m1, e1, e⟩ := R.bind_ok e
 obtain ⟨y, m2, e2, e⟩ := R.bind_ok e
 obtain ⟨z, m3, e3, e⟩ := R.bind_ok e
 refine ⟨β, ρ, m, x, m1, r, l, e1, fun β1 H1 v1 x1 r1 q1 => ?_⟩
 refine ⟨β1, ρ, m1, y, m2, r1, l.mono r x1, e2, fun β2 H2 x2 r2 => ?_⟩
 refine ⟨β2, ρ, m2, z, m3, r2, (l.mono r x1).mono r1 x2, e3, fun β3 H3 x3 r3 => ?_⟩
 exact ⟨β3, m3, x, w, m', r3, (q1.mono r1 x2).mono r2 x3, e, fun β4 H4 v x4 r4 q4 => k _ _ _ (((x1.trans r1 x2).trans r2 x3).trans r3 x4) r4 q4⟩
end
end D
end
section
set_option Elab.async false
set_option linter.all false
set_option maxRecDepth 100000
set_option autoImplicit false
namespace D
open PySem PySem.Spec PyProof.Rows L2 PySem.W
noncomputable def TIs (K : PySem.W.Frag) (H : Hp) (v : V) (ns : List Int) : Prop := ∃ a, v = .ref a ∧ SqT K H a (ns.map V.int)
section
variable {X : L2.Cx}
end
end D
end
section
set_option Elab.async false
set_option linter.all false
set_option maxRecDepth 100000
set_option autoImplicit false
namespace D
open PySem PySem.Spec PyProof.Rows L2
section
variable {X : L2.Cx} {cl : Cl} {C : D.Cx} {pos : Pos}
theorem any_getD (bs : List Bool) : ((List.range bs.length).any fun i => bs.getD i true) = bs.any id := by
 have e : ∀ (f g : Nat → Bool) (l : List Nat), (∀ i ∈ l, f i = g i) → l.any f = l.any g := fun f g l h => by
  induction l with
  | nil => rfl
  | cons x r ih => rw [List.any_cons, List.any_cons, h x List.mem_cons_self, ih fun i hi => h i (List.mem_cons_of_mem _ hi)]
 induction bs with
 | nil => rfl
 | cons b r ih =>
  rw [List.length_cons, List.range_succ_eq_map, List.any_cons, List.any_map, List.any_cons]
  have : ((List.range r.length).any ((fun i => (b :: r).getD i true) ∘ Nat.succ)) = ((List.range r.length).any fun i => r.getD i true) := e _ _ _ fun i _ => by simp
  rw [this, ih]
  rfl
theorem call_any (hh : X.A.handled = none) : CallR X (.builtin "any") (fun xs H Q => ∃ (p : Addr) (bs : List Bool), xs = [.ref p] ∧ SqL X.K H p (bs.map V.bl) ∧ Q (.bl (bs.any id)) H) := by
 intro pins s σ H xs us Q I r h
 obtain ⟨p, bs, rfl, hq, q⟩ := h
 obtain ⟨u, rfl, rx⟩ := vals1 r
 cases rx
 obtain ⟨its, rv, pl, hz⟩ := I.list hq
 have hl := pl.isList
 have hlt : p < s.heap.objs.size := by obtain ⟨_, e, _⟩ := hl; exact Heap.lt_size e
 have len := rv.length
 rw [List.length_map] at len
 refine call_any_walk (wpAny_pyIter_list hl ?_)
 refine ⟨_, _, _, _, _, _, (fun i => bs.getD i true), rfl, Walks.list (A := X.A.in1) hh s.heap.objs.size p (Nat.ne_of_lt hlt) its.toArray, ⟨⟨_, Heap.get?_push_size _ rfl, rfl, rfl⟩, hl.push _⟩, ?_, ?_⟩
 ·intro i v s' Q' E' hv hq'
  have hv : its[i]? = some v := by simpa using hv
  have hi : i < its.length := (List.getElem?_eq_some_iff.mp hv).1
  have hb : i < bs.length := by omega
  have e : (bs.map V.bl)[i]? = some (V.bl (bs[i])) := by simp [hb]
  obtain ⟨u, hu, ru⟩ := rv.get e
  rw [hv] at hu
  cases hu
  cases ru
  have : bs.getD i true = bs[i] := by simp [hb]
  dsimp only at hq'
  rw [this] at hq'
  exact wpAny_truthy_bool hq'
 ·intro h' tk hk
  have e : ((List.range its.toArray.size).any fun i => bs.getD i true) = bs.any id := by
   rw [List.size_toArray, ← len]
   exact any_getD bs
  rw [e]
  refine ⟨.bl _, H, I.kept (t' := tk) fun b o eb => hk b o (fun z => ?_) (Heap.get?_push_of_some _ eb), rfl, q⟩
  rw [List.mem_singleton] at z
  exact Nat.ne_of_lt (Heap.lt_size eb) z
noncomputable def bval : B → Value
 | .len => .builtin "len" | .abs => .builtin "abs" | .max => .builtin "max" | .min => .builtin "min" | .divmod => .builtin "divmod" | .all => .builtin "all" | .any => .builtin "any"
 | .list => .type "list" | .tuple => .type "tuple" | .int => .type "int" | .sorted => .builtin "sorted" | .sum => .builtin "sum" | .repr => .builtin "repr"
theorem rws1 {K : PySem.W.Frag} {β : List Addr} {H : Hp} {w : W} {vs : List V} (h : RWs K β H [w] vs) : ∃ v, vs = [v] ∧ RW K β H w v := by
 cases h with
 | cons q t => cases t; exact ⟨_, rfl, q⟩
theorem rws2 {K : PySem.W.Frag} {β : List Addr} {H : Hp} {w w' : W} {vs : List V} (h : RWs K β H [w, w'] vs) : ∃ v v', vs = [v, v'] ∧ RW K β H w v ∧ RW K β H w' v' := by
 cases h with
 | cons q t => obtain ⟨v', rfl, q'⟩ := rws1 t; exact ⟨_, _, rfl, q, q'⟩
theorem so_blt (hc : X.calm = true) (hh : X.A.handled = none) (b : B) : CallR X (bval b) (SOl X cl (bltop b)) := by
 intro pins s σ H xs us Q I rv h
 obtain ⟨β, m, ws, w, m', r, q, e, k⟩ := h
 unfold bltop at e
 split at e
 ·split at e
  ·
   split at e
   ·split at e
    ·rename_i hl
     cases e
     obtain ⟨v, rfl, qv⟩ := rws1 q
     cases qv
     exact call_len_str pins s σ H _ us Q I rv ⟨_, rfl, Nat.le_trans hl lim_line, k _ _ _ Ext.refl r (.int _)⟩
    ·cases e
   ·split at e
    ·rename_i ys e1
     cases e
     obtain ⟨v, rfl, qv⟩ := rws1 q
     obtain ⟨a, vs, rfl, hs, t⟩ := r.getS qv e1
     exact call_len_seq pins s σ H _ us Q I rv ⟨_, _, rfl, hs, k _ _ _ Ext.refl r (by rw [← t.length]; exact .int _)⟩
    ·cases e
  ·cases e
 ·split at e
  ·
   cases e
   obtain ⟨v, rfl, qv⟩ := rws1 q
   cases qv
   exact call_abs pins s σ H _ us Q I rv ⟨_, rfl, k _ _ _ Ext.refl r (.int _)⟩
  ·cases e
 ·split at e
  ·cases e
   obtain ⟨v, v', rfl, qv, qv'⟩ := rws2 q
   cases qv; cases qv'
   exact call_max2 hc pins s σ H _ us Q I rv ⟨_, _, rfl, k _ _ _ Ext.refl r (.int _)⟩
  ·cases e
 ·split at e
  ·cases e
   obtain ⟨v, v', rfl, qv, qv'⟩ := rws2 q
   cases qv; cases qv'
   exact call_min2 hc pins s σ H _ us Q I rv ⟨_, _, rfl, k _ _ _ Ext.refl r (.int _)⟩
  ·cases e
 ·split at e
  ·split at e
   ·rename_i hd
    cases e
    obtain ⟨v, v', rfl, qv, qv'⟩ := rws2 q
    cases qv; cases qv'
    refine call_divmod pins s σ H _ us Q I rv ⟨_, _, rfl, hd, fun p hp => ?_⟩
    obtain ⟨x2, r2⟩ := r.newT hp [.int _, .int _]
    exact k _ _ _ x2 r2 (.tup (.of upd_same) (.cons (.int _) (.cons (.int _) .nil)))
   ·cases e
  ·cases e
 ·split at e
  ·
   split at e
   ·rename_i ys e1
    split at e
    ·rename_i bs e2
     cases e
     obtain ⟨v, rfl, qv⟩ := rws1 q
     obtain ⟨a, vs, rfl, hs, t⟩ := r.getL qv e1
     have z := t.bools e2
     subst z
     exact call_all hh pins s σ H _ us Q I rv ⟨_, _, rfl, hs, k _ _ _ Ext.refl r (.bl _)⟩
    ·cases e
   ·cases e
  ·cases e
 ·split at e
  ·split at e
   ·rename_i ys e1
    split at e
    ·rename_i bs e2
     cases e
     obtain ⟨v, rfl, qv⟩ := rws1 q
     obtain ⟨a, vs, rfl, hs, t⟩ := r.getL qv e1
     have z := t.bools e2
     subst z
     exact call_any hh pins s σ H _ us Q I rv ⟨_, _, rfl, hs, k _ _ _ Ext.refl r (.bl _)⟩
    ·cases e
   ·cases e
  ·cases e
 ·split at e
  ·
   split at e
   ·rename_i ys e1
    cases e
    obtain ⟨v, rfl, qv⟩ := rws1 q
    obtain ⟨a, vs, rfl, hs, t⟩ := r.getS qv e1
    refine call_list_of pins s σ H _ us Q I rv ⟨_, _, rfl, hs, fun p hp => ?_⟩
    obtain ⟨x2, r2⟩ := r.newL hp t
    exact k _ _ _ x2 r2 (.ref (r.last p))
   ·cases e
  ·cases e
 ·split at e
  ·split at e
   ·rename_i ys e1
    cases e
    obtain ⟨v, rfl, qv⟩ := rws1 q
    obtain ⟨a, vs, rfl, hs, t⟩ := r.getS qv e1
    refine call_tuple_of pins s σ H _ us Q I rv ⟨_, vs, rfl, ?_⟩
    rcases hs with hs | hs
    ·refine .inl ⟨hs, fun p hp => ?_⟩
     obtain ⟨x2, r2⟩ := r.newT hp vs
     exact k _ _ _ x2 r2 (.tup (.of upd_same) (t.mono r x2))
    ·exact .inr ⟨hs, k _ _ _ Ext.refl r (.tup hs t)⟩
   ·cases e
  ·cases e
 ·split at e
  ·cases e
   obtain ⟨v, rfl, qv⟩ := rws1 q
   cases qv
   exact call_int1 pins s σ H _ us Q I rv (.inl ⟨_, rfl, k _ _ _ Ext.refl r (.int _)⟩)
  ·cases e
   obtain ⟨v, rfl, qv⟩ := rws1 q
   cases qv
   exact call_int1 pins s σ H _ us Q I rv (.inr ⟨_, rfl, k _ _ _ Ext.refl r (.int _)⟩)
  ·cases e
 ·cases e
theorem s_bltF {x : Str} {b : B} {id : String} {a : Expr} {es : List Expr} {p : Pos} {ds : Es} (hc : X.calm = true) (hh : X.A.handled = none) (hb : bval b = .builtin id) (hg : Gl X x) (hm : X.mg x = none) (hv : bootBuiltins x = some (.builtin id)) (ha : PA X (a :: es) (SA X cl (evEs C ds)))
  (hn : x ≠ "__name__") (hdb : (x == ("__debug__" : Str)) = false) (he : starEach (a :: es) X.env = (false, eval a X.env) :: starEach es X.env) (hpl : (backTo pos (starEach es X.env)).any (·.1) = false) : PE X (.Call (.Name x p) (a :: es) [] pos) (SE X cl (evE C (.blt b ds))) := by
 refine PE.imp (pe_callB (hb ▸ so_blt (cl := cl) hc hh b) hg hm hv ha hn hdb he hpl) ?_
 rintro σ H Q ⟨β, ρ, m, w, m', r, l, e, k⟩
 simp only [sE_var, sE_cst, sE_bin, sE_neg, sE_not, sE_and, sE_or, sE_cmp, sE_chain, sE_ife, sE_tup, sE_lst, sE_idx, sE_slc, sE_call, sE_blt, sE_isI, sE_meth, sE_comp, sE_lrng, sE_frz, sE_fld, sE_make, sE_mth, sE_set0, sE_sset] at e
 obtain ⟨x, m1, e1, e⟩ := R.bind_ok e
 exact ⟨β, ρ, m, x, m1, r, l, e1, fun β1 H1 v1 x1 r1 q1 => ⟨β1, m1, x, w, m', r1, q1, e, fun β2 H2 v2 x2 r2 q2 => k _ _ _ (x1.trans r1 x2) r2 q2⟩⟩
theorem s_bltT {x : Str} {b : B} {id : String} {a : Expr} {es : List Expr} {p : Pos} {ds : Es} (hc : X.calm = true) (hh : X.A.handled = none) (hb : bval b = .type id) (hg : Gl X x) (hm : X.mg x = none) (hv : bootBuiltins x = some (.type id)) (ha : PA X (a :: es) (SA X cl (evEs C ds)))
  (hn : x ≠ "__name__") (hdb : (x == ("__debug__" : Str)) = false) (he : starEach (a :: es) X.env = (false, eval a X.env) :: starEach es X.env) (hpl : (backTo pos (starEach es X.env)).any (·.1) = false) : PE X (.Call (.Name x p) (a :: es) [] pos) (SE X cl (evE C (.blt b ds))) := by
 refine PE.imp (pe_callTy (hb ▸ so_blt (cl := cl) hc hh b) hg hm hv ha hn hdb he hpl) ?_
 rintro σ H Q ⟨β, ρ, m, w, m', r, l, e, k⟩
 simp only [sE_var, sE_cst, sE_bin, sE_neg, sE_not, sE_and, sE_or, sE_cmp, sE_chain, sE_ife, sE_tup, sE_lst, sE_idx, sE_slc, sE_call, sE_blt, sE_isI, sE_meth, sE_comp, sE_lrng, sE_frz, sE_fld, sE_make, sE_mth, sE_set0, sE_sset] at e
 obtain ⟨x, m1, e1, e⟩ := R.bind_ok e
 exact ⟨β, ρ, m, x, m1, r, l, e1, fun β1 H1 v1 x1 r1 q1 => ⟨β1, m1, x, w, m', r1, q1, e, fun β2 H2 v2 x2 r2 q2 => k _ _ _ (x1.trans r1 x2) r2 q2⟩⟩
theorem Rel.newU {K : PySem.W.Frag} {cl : Cl} {β : List Addr} {H : Hp} {m : Mem} (r : Rel K cl β m H) {p : Addr} (hp : H p = none) (o : HO) : Ext β H β (upd H p o) ∧ Rel K cl β m (upd H p o) := by
 have x : Ext β H β (upd H p o) := ⟨⟨[], by simp, by simp⟩, fun h _ _ => by rw [upd_ne (ne_of_none h hp)]; exact h⟩
 refine ⟨x, r.len, r.nd, fun h1 h2 => ?_⟩
 have q := r.obj h1 h2
 obtain ⟨u, e, _⟩ := q.ex
 exact q.mono r x (upd_ne (ne_of_none e hp))
noncomputable def tyNames : List String := ["int", "bool", "str", "list", "tuple", "dict", "NoneType"]
theorem kit1 (K : PySem.W.Frag) : ∀ t ∈ tyNames, ∀ c ∈ tyNames, PySem.W.kitOne K (.type t) (.type c) = some (t == c || (t == "bool" && c == "int")) := by
 intro t ht c hc
 simp only [tyNames, List.mem_cons, List.not_mem_nil, or_false] at ht hc
 rcases ht with rfl | rfl | rfl | rfl | rfl | rfl | rfl <;> rcases hc with rfl | rfl | rfl | rfl | rfl | rfl | rfl <;> with_unfolding_all rfl
theorem isTup_ok {pins : List (Addr × Obj)} {s : Shared} {σ : L2.St} {H : Hp} {a : Addr} {vs : List V} {c : Value} {b : Bool} {A : Around} {Q : Value → Shared → Prop} {E : Value → Shared → Prop} (I : Inv X pins σ H s) (h : SqT X.K H a vs) (e : PySem.W.kitOne X.K (.type "tuple") c = some b) (q : ∀ tk, Q (.bool b) { s with toks := tk }) :
  wpAny (model X.prog X.w) A (call (.builtin "isinstance") [.ref a, c]) Q E s := by
 obtain ⟨its, rv, ⟨o, e1, e2, n, e3⟩, hz⟩ := I.tuple h
 exact PySem.W.kia_one PySem.W.kitx_tuple I.kIn ⟨_, e1, e2⟩ e (fun z => nomatch z) q
theorem isLst_ok {pins : List (Addr × Obj)} {s : Shared} {σ : L2.St} {H : Hp} {a : Addr} {vs : List V} {c : Value} {b : Bool} {A : Around} {Q : Value → Shared → Prop} {E : Value → Shared → Prop} (I : Inv X pins σ H s) (h : SqL X.K H a vs) (e : PySem.W.kitOne X.K (.type "list") c = some b) (q : ∀ tk, Q (.bool b) { s with toks := tk }) :
  wpAny (model X.prog X.w) A (call (.builtin "isinstance") [.ref a, c]) Q E s := by
 obtain ⟨its, rv, ⟨o, n, e1, e2, e3, e4⟩, hz⟩ := I.list h
 exact PySem.W.kia_one PySem.W.kitx_list I.kIn ⟨_, e1, e2⟩ e (fun z => nomatch z) q
theorem so_isI {t : String} (ht : t ∈ tyNames) : CallR X (.builtin "isinstance") (fun xs H Q => ∃ x, xs = [x, .ty t] ∧ ∃ β m w b, Rel X.K cl β m H ∧ RW X.K β H w x ∧ isTy m t w = some b ∧ Q (.bl b) H) := by
 intro pins s σ H xs us Q I rv h
 obtain ⟨x, rfl, β, m, w, b, r, q, e, k⟩ := h
 obtain ⟨u, u', rfl, r1, r2⟩ := vals2 rv
 cases r2
 have fin : ∀ tk, EP X pins σ Q (.bool b) { s with toks := tk } := fun tk => ⟨.bl b, H, I.tok tk, rfl, k⟩
 cases q with
 | non => simp only [isTy] at e; exact isinst_ok I r1 .non (by rw [kit1 _ _ (by decide) _ ht, ← e]; simp only [tyNames, List.mem_cons, List.not_mem_nil, or_false] at ht; rcases ht with rfl | rfl | rfl | rfl | rfl | rfl | rfl <;> rfl) fin
 | bl c => simp only [isTy] at e; exact isinst_ok I r1 (.bl c) (by rw [kit1 _ _ (by decide) _ ht, ← e]; simp only [tyNames, List.mem_cons, List.not_mem_nil, or_false] at ht; rcases ht with rfl | rfl | rfl | rfl | rfl | rfl | rfl <;> rfl) fin
 | int i => simp only [isTy] at e; exact isinst_ok I r1 (.int i) (by rw [kit1 _ _ (by decide) _ ht, ← e]; simp only [tyNames, List.mem_cons, List.not_mem_nil, or_false] at ht; rcases ht with rfl | rfl | rfl | rfl | rfl | rfl | rfl <;> rfl) fin
 | str y => simp only [isTy] at e; exact isinst_ok I r1 (.str y) (by rw [kit1 _ _ (by decide) _ ht, ← e]; simp only [tyNames, List.mem_cons, List.not_mem_nil, or_false] at ht; rcases ht with rfl | rfl | rfl | rfl | rfl | rfl | rfl <;> rfl) fin
 | tup h tt =>
  simp only [isTy] at e
  cases r1
  exact isTup_ok I h (by rw [kit1 _ _ (by decide) _ ht, ← e]; simp only [tyNames, List.mem_cons, List.not_mem_nil, or_false] at ht; rcases ht with rfl | rfl | rfl | rfl | rfl | rfl | rfl <;> rfl) fin
 | fz h tt =>
  simp only [isTy] at e
  cases r1
  exact isLst_ok I h.l (by rw [kit1 _ _ (by decide) _ ht, ← e]; simp only [tyNames, List.mem_cons, List.not_mem_nil, or_false] at ht; rcases ht with rfl | rfl | rfl | rfl | rfl | rfl | rfl <;> rfl) fin
 | obj h e0 tt => simp only [isTy] at e; cases e
 | ref h =>
  simp only [isTy] at e
  cases r1
  rename_i n0 a0
  have go : ∀ {vs : List V}, SqL X.K H a0 vs → some (t == "list") = some b → wpAny (model X.prog X.w) X.A (call (.builtin "isinstance") [.ref a0, .type t]) (EP X pins σ Q) X.xe s := fun {vs} hs e => isLst_ok (A := X.A) (E := X.xe) I hs (c := .type t) (b := b) (by rw [kit1 _ _ (by decide) _ ht, ← e]; simp only [tyNames, List.mem_cons, List.not_mem_nil, or_false] at ht; rcases ht with rfl | rfl | rfl | rfl | rfl | rfl | rfl <;> rfl) fin
  split at e
  ·rename_i xs e1
   obtain ⟨vs, z, _⟩ := r.obj e1 h
   exact go (.inl (.inl z)) e
  ·cases e
theorem s_isI {a : Expr} {d : E} {t : Str} {tn : String} {p p2 : Pos} (ht : tn ∈ tyNames) (hg : Gl X "isinstance") (hm : X.mg "isinstance" = none) (hg2 : Gl X t) (hm2 : X.mg t = none) (hb2 : bootBuiltins t = some (.type tn)) (ha : PE X a (SE X cl (evE C d)))
  (hn : t ≠ "__name__") (hdb : (t == ("__debug__" : Str)) = false) (he : starEach [a, .Name t p2] X.env = (false, eval a X.env) :: starEach [.Name t p2] X.env) : PE X (.Call (.Name "isinstance" p) [a, .Name t p2] [] pos) (SE X cl (evE C (.isI d tn))) := by
 refine PE.imp (pe_callB (so_isI (cl := cl) ht) hg hm (by decide +kernel) (pa_cons ha (pa_cons (pe_bltn (v := .ty tn) (u := .type tn) hg2 hm2 hb2 rfl hn hdb) pa_nil) he) (by decide +kernel) (by decide +kernel) he rfl) ?_
 rintro σ H Q ⟨β, ρ, m, w, m', r, l, e, k⟩
 simp only [sE_var, sE_cst, sE_bin, sE_neg, sE_not, sE_and, sE_or, sE_cmp, sE_chain, sE_ife, sE_tup, sE_lst, sE_idx, sE_slc, sE_call, sE_blt, sE_isI, sE_meth, sE_comp, sE_lrng, sE_frz, sE_fld, sE_make, sE_mth, sE_set0, sE_sset] at e
 obtain ⟨x, m1, e1, e⟩ := R.bind_ok e
 split at e
 ·rename_i b e2
  cases e
  exact ⟨β, ρ, m, x, _, r, l, e1, fun β1 H1 v1 x1 r1 q1 => ⟨v1, rfl, β1, _, x, b, r1, q1, e2, k _ _ _ x1 r1 (.bl b)⟩⟩
 ·cases e
noncomputable def SM (X : L2.Cx) (cl : Cl) (name : String) : V → List V → Hp → VK → Prop := fun x xs H Q => ∃ β m wx ws w m', Rel X.K cl β m H ∧ RW X.K β H wx x ∧ RWs X.K β H ws xs ∧ methop wx name ws m = .ok w m' ∧ ∀ β' H' v, Ext β H β' H' → Rel X.K cl β' m' H' → RW X.K β' H' w v → Q v H'
theorem kdM_lst {name : String} (h : kdM name = .lst) : ¬ name = "join" ∧ ¬ name = "index" ∧ ¬ name = "add" := by
 unfold kdM at h
 split at h
 ·cases h
 ·rename_i h1
  split at h
  ·cases h
  ·rename_i h2
   exact ⟨fun z => h1 (.inl z), fun z => h1 (.inr z), h2⟩
theorem meth_lst {o : W} {name : String} {ws : List W} {m m' : Mem} {w : W} (hn : kdM name = .lst) (e : methop o name ws m = .ok w m') : ∃ n ys, o = .ref n ∧ m[n]? = some (.lst ys) ∧ lstop n ys name ws m = .ok w m' := by
 obtain ⟨h1, h2, h3⟩ := kdM_lst hn
 unfold methop at e
 split at e
 ·split at e
  ·rename_i n _ ys e1
   exact ⟨_, _, rfl, e1, e⟩
  ·simp only [setMeth, h3, if_false] at e; cases e
  ·cases e
 ·simp only [strop, h1, h2, if_false] at e; cases e
 ·cases e
theorem sm_append : MtR X "list.append" (SM X cl "append") := by
 intro pins s σ H x xs v us Q I rx rv h
 obtain ⟨β, m, wx, ws, w, m', r, qx, qs, e, k⟩ := h
 obtain ⟨n, ys, rfl, e0, e⟩ := meth_lst (by decide) e
 simp only [lstop, if_pos] at e
 unfold opAppend at e
 split at e
 ·split at e
  ·rename_i hl
   cases e
   obtain ⟨a, vs, rfl, hb, ha, t⟩ := r.lst qx e0
   obtain ⟨v1, rfl, q1⟩ := rws1 qs
   obtain ⟨x2, r2⟩ := r.setL e0 hb (t.append (.cons q1 .nil))
   exact mt_append pins s σ H _ _ v us Q I rx rv ⟨_, _, _, rfl, rfl, ha, Nat.lt_of_lt_of_le (by rw [← t.length]; exact hl) lim_line, k _ _ _ x2 r2 .non⟩
  ·cases e
 ·cases e
theorem sm_clear : MtR X "list.clear" (SM X cl "clear") := by
 intro pins s σ H x xs v us Q I rx rv h
 obtain ⟨β, m, wx, ws, w, m', r, qx, qs, e, k⟩ := h
 obtain ⟨n, ys, rfl, e0, e⟩ := meth_lst (by decide) e
 simp only [lstop, if_pos, String.reduceEq, if_false] at e
 unfold opClear at e
 split at e
 ·cases e
  obtain ⟨a, vs, rfl, hb, ha, t⟩ := r.lst qx e0
  cases qs
  obtain ⟨x2, r2⟩ := r.setL e0 hb .nil
  exact mt_clear pins s σ H _ _ v us Q I rx rv ⟨_, _, rfl, rfl, ha, k _ _ _ x2 r2 .non⟩
 ·cases e
theorem sm_reverse : MtR X "list.reverse" (SM X cl "reverse") := by
 intro pins s σ H x xs v us Q I rx rv h
 obtain ⟨β, m, wx, ws, w, m', r, qx, qs, e, k⟩ := h
 obtain ⟨n, ys, rfl, e0, e⟩ := meth_lst (by decide) e
 simp only [lstop, if_pos, String.reduceEq, if_false] at e
 unfold opReverse at e
 split at e
 ·cases e
  obtain ⟨a, vs, rfl, hb, ha, t⟩ := r.lst qx e0
  cases qs
  obtain ⟨x2, r2⟩ := r.setL e0 hb t.reverse
  exact mt_reverse pins s σ H _ _ v us Q I rx rv ⟨_, _, rfl, rfl, ha, k _ _ _ x2 r2 .non⟩
 ·cases e
theorem meth_str {o : W} {name : String} {ws : List W} {m m' : Mem} {w : W} (hn : kdM name = .str) (e : methop o name ws m = .ok w m') : ∃ z, o = .str z ∧ strop z name ws m = .ok w m' := by
 have hj : name = "join" ∨ name = "index" := by
  unfold kdM at hn
  split at hn
  ·assumption
  ·split at hn <;> cases hn
 unfold methop at e
 split at e
 ·split at e
  ·rcases hj with rfl | rfl <;> (simp only [lstop, String.reduceEq, if_false] at e; cases e)
  ·rcases hj with rfl | rfl <;> (simp only [setMeth, String.reduceEq, if_false] at e; cases e)
  ·cases e
 ·exact ⟨_, rfl, e⟩
 ·cases e
theorem RWs.strsW {K : PySem.W.Frag} {β : List Addr} {H : Hp} : ∀ {ws : List W} {vs : List V} {ns : List Str}, RWs K β H ws vs → D.strsW ws = some ns → vs = ns.map V.str
 | _, _, _, .nil, h => by cases h; rfl
 | _, _, _, .cons (w := w) q t, h => by
  cases w with
  | str i =>
   simp only [D.strsW, Option.map_eq_some_iff] at h
   obtain ⟨r, h1, rfl⟩ := h
   cases q
   rw [t.strsW h1]; rfl
  | _ => cases h
theorem sm_join : MtR X "str.join" (SM X cl "join") := by
 intro pins s σ H x xs v us Q I rx rv h
 obtain ⟨β, m, wx, ws, w, m', r, qx, qs, e, k⟩ := h
 obtain ⟨z, rfl, e⟩ := meth_str (by decide) e
 replace e : opJoin z ws m = .ok w m' := e
 unfold opJoin at e
 split at e
 ·split at e
  ·rename_i ys e1
   split at e
   ·rename_i ss e2
    split at e
    ·rename_i hl
     cases e; cases qx
     obtain ⟨v1, rfl, q1⟩ := rws1 qs
     obtain ⟨a, vs, rfl, hs, t⟩ := r.getL q1 e1
     have z1 := t.strsW e2
     subst z1
     exact mt_join pins s σ H _ _ v us Q I rx rv ⟨_, _, _, rfl, rfl, hs, hl, k _ _ _ Ext.refl r (.str _)⟩
    ·cases e
   ·cases e
  ·cases e
 ·cases e
theorem sm_sindex : MtR X "str.index" (SM X cl "index") := by
 intro pins s σ H x xs v us Q I rx rv h
 obtain ⟨β, m, wx, ws, w, m', r, qx, qs, e, k⟩ := h
 obtain ⟨z, rfl, e⟩ := meth_str (by decide) e
 replace e : opSIndex z ws m = .ok w m' := e
 unfold opSIndex at e
 split at e
 ·rename_i _ y _
  split at e
  ·rename_i p e1
   cases e; cases qx
   obtain ⟨v1, rfl, q1⟩ := rws1 qs
   cases q1
   obtain ⟨t, rfl⟩ := rx
   obtain ⟨u, rfl, t2, rfl⟩ := Vals.one rv
   cases ho : Builtin.Str.occurrences z y 0 z.length 1 with
   | nil => rw [ho] at e1; cases e1
   | cons i rest =>
    rw [ho] at e1
    cases e1
    exact SC.index ho ⟨.int _, H, I.tok _, ⟨_, rfl⟩, k _ _ _ Ext.refl r (.int _)⟩
  ·cases e
 ·cases e
theorem meth_set {o : W} {ws : List W} {m m' : Mem} {w : W} (e : methop o "add" ws m = .ok w m') : ∃ n ks, o = .ref n ∧ m[n]? = some (.set ks) ∧ setMeth n ks "add" ws m = .ok w m' := by
 unfold methop at e
 split at e
 ·split at e
  ·simp only [lstop, String.reduceEq, if_false] at e; cases e
  ·rename_i n _ ks e1
   exact ⟨_, _, rfl, e1, e⟩
  ·cases e
 ·simp only [strop, String.reduceEq, if_false] at e; cases e
 ·cases e
theorem Rel.setO {K : PySem.W.Frag} {cl : Cl} {β : List Addr} {H : Hp} {m : Mem} {a : Addr} (r : Rel K cl β m H) {n : Nat} {o : O} {ks : List L2.Key} {S : L2.Key → Bool} (hm : m[n]? = some o) (hb : β[n]? = some a) (q : ∀ k, S k = memK k ks) :
  Ext β H β (upd H a (SetO cl.P cl.w a S ks.length)) ∧ Rel K cl β (m.set n (.set ks)) (upd H a (SetO cl.P cl.w a S ks.length)) := by
 have ha : a ∈ β := List.mem_of_getElem? hb
 have x : Ext β H β (upd H a (SetO cl.P cl.w a S ks.length)) := ⟨⟨[], by simp, by simp⟩, fun {b u} h hn _ => by rw [upd_ne (show b ≠ a from fun z => hn (by rw [z]; exact ha))]; exact h⟩
 refine ⟨x, by simp [r.len], r.nd, fun {k o' b} h1 h2 => ?_⟩
 by_cases hk : n = k
 ·subst hk
  rw [hb] at h2; cases h2
  rw [List.getElem?_set_self (List.getElem?_eq_some_iff.mp hm).1] at h1
  cases h1
  exact ⟨S, upd_same, q⟩
 ·rw [List.getElem?_set_ne hk] at h1
  have q' := r.obj h1 h2
  refine q'.mono r x (upd_ne ?_)
  rintro rfl
  obtain ⟨h3, e3⟩ := List.getElem?_eq_some_iff.mp h2
  obtain ⟨h4, e4⟩ := List.getElem?_eq_some_iff.mp hb
  exact hk ((List.getElem_inj r.nd).mp (e4.trans e3.symm))
theorem sm_add (hu : UN X cl) : MtR X "set.add" (SM X cl "add") := by
 intro pins s σ H x xs v us Q I rx rv h
 obtain ⟨β, m, wx, ws, w, m', r, qx, qs, e, k⟩ := h
 obtain ⟨n, ks, rfl, e0, e⟩ := meth_set e
 simp only [setMeth, if_pos] at e
 unfold opAdd at e
 split at e
 ·split at e
  ·rename_i kk e1
   split at e
   ·rename_i hl
    cases e
    obtain ⟨v1, rfl, q1⟩ := rws1 qs
    have z := keyW_rel q1 e1
    subst z
    cases qx with
    | ref hb =>
     obtain ⟨S, hS, hk⟩ := r.obj e0 hb
     have hS' := hS
     rw [hu.P, hu.w] at hS'
     refine mt_set_add pins s σ H _ _ v us Q I rx rv ⟨_, S, _, kk, rfl, rfl, hS', hl, ?_⟩
     have hk' : ∀ j, (S j || decide (j = kk)) = memK j (if memK kk ks then ks else ks ++ [kk]) := fun j => by
      rw [hk]
      split
      ·rename_i hm
       cases hd : decide (j = kk) with
       | false => simp
       | true =>
        have := of_decide_eq_true hd
        subst this
        simp [hm]
      ·simp only [memK, List.any_append, List.any_cons, List.any_nil, Bool.or_false]
       congr 1
       exact decide_eq_decide.mpr eq_comm
     obtain ⟨x2, r2⟩ := r.setO e0 hb hk'
     have hlen : (if memK kk ks then ks else ks ++ [kk]).length = if S kk then ks.length else ks.length + 1 := by
      rw [hk]; split <;> simp
     rw [hlen, hu.P, hu.w] at x2 r2
     exact k _ _ _ x2 r2 .non
   ·cases e
  ·cases e
 ·cases e
noncomputable def TyG (X : L2.Cx) (T : String) (x : V) (H : Hp) : Prop := ∀ (pins : List (Addr × Obj)) (s : Shared) (σ : L2.St) (v : Value), Inv X pins σ H s → RelV x v → s.TypeIs v T ∧ ∀ a, v = .ref a → ∃ ob, s.heap.get? a = some ob ∧ ob.dict = none
noncomputable def kdT : Kd → String
 | .lst => "list" | .str => "str" | .set => "set" | .no => ""
theorem kd_ty {β : List Addr} {m : Mem} {H : Hp} {w : W} {v : V} {kd : Kd} (r : Rel X.K cl β m H) (q : RW X.K β H w v) (hk : kd ≠ .no) (e : kdOf m w = kd) : TyG X (kdT kd) v H := by
 intro pins s σ u I rv
 cases q with
 | ref h =>
  simp only [kdOf] at e
  split at e
  ·rename_i ws e1
   obtain ⟨vs, z, _⟩ := r.obj e1 h
   subst e
   exact tyV_is (T := "list") I rv (.inl ⟨rfl, _, .inl (.inl z)⟩)
  ·rename_i ks e1
   subst e
   obtain ⟨S, z, _⟩ := r.obj e1 h
   cases rv
   obtain ⟨⟨o, _, _, _, e, ex, _⟩, _⟩ := I.hok _ _ z
   refine ⟨⟨o, e, ex.1⟩, fun a e2 => ?_⟩
   cases e2
   exact ⟨o, e, ex.2.1⟩
  ·exact absurd e.symm hk
 | str x =>
  simp only [kdOf] at e
  subst e
  exact tyV_is (T := "str") I rv rfl
 | _ => exact absurd (by simpa [kdOf] using e.symm) hk
section
variable {o : Expr} {d : E} {name : Str} {nm id : String} {apos : Pos}
theorem s_meth0 {T : String} (hT : T = kdT (kdM nm)) (pa : PlainAttrs T) (slot : Slot T name id) (hty : typeOf (.builtin id) = pure (.type "method_descriptor")) (hm : MtR X id (SM X cl nm)) (ho : PE X o (SE X cl (evE C d)))
  (hbase : attributeBase o name X.env (eval o X.env) = eval o X.env) (hline : (apos.endLine == pos.line) = true) : PE X (.Call (.Attribute o name apos) [] [] pos) (SE X cl (evE C (.meth d nm .nil))) := by
 intro pins s σ H Q I h
 refine wpAny_Call_method0_late hbase hline ?_
 obtain ⟨β, ρ, m, w, m', r, l, e, k⟩ := h
 simp only [sE_var, sE_cst, sE_bin, sE_neg, sE_not, sE_and, sE_or, sE_cmp, sE_chain, sE_ife, sE_tup, sE_lst, sE_idx, sE_slc, sE_call, sE_blt, sE_isI, sE_meth, sE_comp, sE_lrng, sE_frz, sE_fld, sE_make, sE_mth, sE_set0, sE_sset] at e
 obtain ⟨x, m1, e1, e⟩ := R.bind_ok e
 refine thn (ho pins s σ H (fun v H1 => TyG X T v H1 ∧ SM X cl nm v [] H1 Q) I ⟨β, ρ, m, x, m1, r, l, e1, fun β1 H1 v1 x1 r1 q1 => ?_⟩) fun v s1 ⟨x, H1, I1, r1, ty, q1⟩ => ?_
 ·split at e
  ·rename_i hk
   simp only [sEs_nil, sEs_cons, R.bind] at e
   exact ⟨by rw [hT]; exact kd_ty r1 q1 (by unfold kdM; split <;> (try split) <;> (intro z; cases z)) hk, β1, m1, x, [], w, m', r1, q1, .nil, e, fun β2 H2 v2 x2 r2 q2 => k _ _ _ (x1.trans r1 x2) r2 q2⟩
  ·cases e
 ·obtain ⟨h1, h2⟩ := ty pins s1 σ v I1 r1
  exact ⟨T, id, pa, slot, hty, h1, h2, Calls.callWith_builtin rfl (PySem.evalArgs_none (hm pins s1 σ H1 x [] v [] Q I1 r1 .nil q1))⟩
theorem s_meth {T : String} {a : Expr} {es : List Expr} {ds : Es} (hT : T = kdT (kdM nm)) (pa : PlainAttrs T) (slot : Slot T name id) (hty : typeOf (.builtin id) = pure (.type "method_descriptor")) (hm : MtR X id (SM X cl nm)) (ho : PE X o (SE X cl (evE C d))) (ha : PA X (a :: es) (SA X cl (evEs C ds)))
  (hbase : attributeBase o name X.env (eval o X.env) = eval o X.env)
  (hfew : ((backTo pos (starEach (a :: es) X.env)).all (fun x => !x.1) && (backToKw pos (keywordEach [] X.env)).all (fun x => x.1.isSome)
   && decide ((a :: es).length + ([] : List Keyword).length + (if ([] : List Keyword).isEmpty then 0 else 1) < 30)) = true)
  (hline : (apos.endLine == pos.line) = true) (hs : starEach (a :: es) X.env = (false, eval a X.env) :: starEach es X.env) (hplain : (backTo pos (starEach es X.env)).any (·.1) = false) : PE X (.Call (.Attribute o name apos) (a :: es) [] pos) (SE X cl (evE C (.meth d nm ds))) := by
 intro pins s σ H Q I h
 refine wpAny_Call_method_late hbase hfew hline rfl ?_
 obtain ⟨β, ρ, m, w, m', r, l, e, k⟩ := h
 simp only [sE_var, sE_cst, sE_bin, sE_neg, sE_not, sE_and, sE_or, sE_cmp, sE_chain, sE_ife, sE_tup, sE_lst, sE_idx, sE_slc, sE_call, sE_blt, sE_isI, sE_meth, sE_comp, sE_lrng, sE_frz, sE_fld, sE_make, sE_mth, sE_set0, sE_sset] at e
 obtain ⟨x, m1, e1, e⟩ := R.bind_ok e
 refine thn (ho pins s σ H (fun v H1 => TyG X T v H1 ∧ SA X cl (evEs C ds) σ H1 fun xs H2 => SM X cl nm v xs H2 Q) I ⟨β, ρ, m, x, m1, r, l, e1, fun β1 H1 v1 x1 r1 q1 => ?_⟩) fun v s1 ⟨x, H1, I1, r1, ty, q1⟩ => ?_
 ·split at e
  ·rename_i hk
   obtain ⟨ws, m2, e2, e⟩ := R.bind_ok e
   exact ⟨by rw [hT]; exact kd_ty r1 q1 (by unfold kdM; split <;> (try split) <;> (intro z; cases z)) hk, β1, ρ, m1, ws, m2, r1, l.mono r x1, e2, fun β2 H2 v2 x2 r2 q2 =>
    ⟨β2, m2, x, ws, w, m', r2, q1.mono r1 x2, q2, e, fun β3 H3 v3 x3 r3 q3 => k _ _ _ ((x1.trans r1 x2).trans r2 x3) r3 q3⟩⟩
  ·cases e
 ·obtain ⟨h1, h2⟩ := ty pins s1 σ v I1 r1
  refine ⟨T, id, pa, slot, hty, h1, h2, ?_⟩
  have hA := ha pos pins s1 σ H1 _ I1 q1
  rw [hs] at hA ⊢
  refine Calls.callWith_builtin (by show (false || (backTo pos (starEach es X.env)).any (·.1)) = false; rw [hplain] <;> rfl) (Calls.evalArgs_plain ?_)
  exact thn hA fun us s2 ⟨vs, H2, I2, r2, q2⟩ => hm pins s2 σ H2 x vs v us Q I2 r1 r2 q2
end
theorem s_set0 {p : Pos} (hu : UN X cl) (hg : Gl X "set") (hm : X.mg "set" = none) : PE X (.Call (.Name "set" p) [] [] pos) (SE X cl (evE C .set0)) := by
 refine PE.imp (pe_callTy0 call_set0 hg hm (by decide +kernel) (by decide +kernel) (by decide +kernel)) ?_
 rintro σ H Q ⟨β, ρ, m, w, m', r, l, e, k⟩
 simp only [sE_var, sE_cst, sE_bin, sE_neg, sE_not, sE_and, sE_or, sE_cmp, sE_chain, sE_ife, sE_tup, sE_lst, sE_idx, sE_slc, sE_call, sE_blt, sE_isI, sE_meth, sE_comp, sE_lrng, sE_frz, sE_fld, sE_make, sE_mth, sE_set0, sE_sset, new] at e
 cases e
 refine ⟨rfl, fun p hp => ?_⟩
 have := r.newO (o := .set []) (ho := SetO cl.P cl.w p (fun _ => false) 0) hp fun x => ⟨_, upd_same, fun _ => rfl⟩
 rw [hu.P, hu.w] at this
 exact k _ _ _ this.1 this.2 (.ref (r.last p))
noncomputable def spD (K : PySem.W.Frag) (cl : Cl) (np : Nat) (f : List W → Mem → R W) : Sp := fun vs H Q _ => vs.length = np ∧ ∃ β m ws w m', Rel K cl β m H ∧ RWs K β H ws vs ∧ f ws m = .ok w m' ∧ ∀ β' H' v, Ext β H β' H' → Rel K cl β' m' H' → RW K β' H' w v → Q v H'
theorem s_call {k f : Nat} {fa : Addr} {fd : FuncData} {ps : List Str} {x : Str} {p : Pos} {a : Expr} {es : List Expr} {ds : Es} (F : FnOk X.prog X.w X.K X.mg X.base CX0 k fa fd ps (spD X.K cl ps.length (C.call f))) (hr : Room k X.A) (hg : Gl X x) (hm : X.mg x = some (.ref fa)) (hk : PySem.W.keepIn X.K (.ref fa) = true) (hb : Binds X.K fd ps [])
  (ha : PA X (a :: es) (SA X cl (evEs C ds))) (hl : ∀ ρ m ws m', evEs C ds ρ m = .ok ws m' → ws.length = ps.length) (hdb : (x == ("__debug__" : Str)) = false) (he : starEach (a :: es) X.env = (false, eval a X.env) :: starEach es X.env) (hpl : (backTo pos (starEach es X.env)).any (·.1) = false) :
  PE X (.Call (.Name x p) (a :: es) [] pos) (SE X cl (evE C (.call f ds))) := by
 refine PE.imp (pe_call F hr hg hm hk hb .nil pass0 ha hdb he hpl) ?_
 rintro σ H Q ⟨β, ρ, m, w, m', r, l, e, k⟩
 simp only [sE_var, sE_cst, sE_bin, sE_neg, sE_not, sE_and, sE_or, sE_cmp, sE_chain, sE_ife, sE_tup, sE_lst, sE_idx, sE_slc, sE_call, sE_blt, sE_isI, sE_meth, sE_comp, sE_lrng, sE_frz, sE_fld, sE_make, sE_mth, sE_set0, sE_sset] at e
 obtain ⟨x, m1, e1, e⟩ := R.bind_ok e
 refine ⟨β, ρ, m, x, m1, r, l, e1, fun β1 H1 v1 x1 r1 q1 => ⟨?_, β1, m1, x, w, m', r1, by rw [List.append_nil]; exact q1, e, fun β2 H2 v2 x2 r2 q2 => k _ _ _ (x1.trans r1 x2) r2 q2⟩⟩
 rw [List.append_nil, ← q1.length]
 exact hl _ _ _ _ e1
end
end D
end
section
set_option Elab.async false
set_option linter.all false
set_option maxRecDepth 100000
set_option autoImplicit false
namespace D
open PySem PySem.Spec PyProof.Rows L2
section
variable (X : L2.Cx) (cl : Cl)
noncomputable def IS (J : It) (src : Src) (β0 : List Addr) (H0 : Hp) : Prop := ∀ (β : List Addr) (m : Mem) (H : Hp) (i : Nat), (∃ γ, β = β0 ++ γ) → (∀ {a : Addr} {vs : List V}, SqT X.K H0 a vs → SqT X.K H a vs) → (∀ {a : Addr} {o : Obj} {u : HO}, H0 a = some (.frz o u) → H a = some (.frz o u)) → Rel X.K cl β m H →
 (∀ w, src.get m i = .it w → J.go i H ∧ ∀ x H', J.yld i H x H' → Ext β H β H' ∧ Rel X.K cl β m H' ∧ RW X.K β H' w x) ∧ (src.get m i = .fin → J.stop i H)
noncomputable def SI (ev : Loc → Mem → R Src) : TI := fun σ H Rr => ∃ β ρ m src m', Rel X.K cl β m H ∧ RL X.K β H ρ σ ∧ ev ρ m = .ok src m' ∧ ∀ β' H' J, Ext β H β' H' → Rel X.K cl β' m' H' → IS X cl J src β' H' → Rr J H'
noncomputable def SG (ev : W → Loc → Mem → R Loc) : TG := fun v σ H Q => ∃ β ρ m w ρ' m', Rel X.K cl β m H ∧ RL X.K β H ρ σ ∧ RW X.K β H w v ∧ ev w ρ m = .ok ρ' m' ∧ ∀ β' H' σ', Ext β H β' H' → Rel X.K cl β' m' H' → RL X.K β' H' ρ' σ' → Q σ' H'
noncomputable def SGs (ev : List W → Loc → Mem → R Loc) : TGs := fun vs σ H Q => ∃ β ρ m ws ρ' m', Rel X.K cl β m H ∧ RL X.K β H ρ σ ∧ RWs X.K β H ws vs ∧ ev ws ρ m = .ok ρ' m' ∧ ∀ β' H' σ', Ext β H β' H' → Rel X.K cl β' m' H' → RL X.K β' H' ρ' σ' → Q σ' H'
noncomputable def EndF (D : Ends) (β : List Addr) (H : Hp) : F → Prop
 | .nx ρ => ∀ σ, RL X.K β H ρ σ → D.nx σ H
 | .rt w => ∀ v, RW X.K β H w v → D.rt v H
 | .bk ρ => ∀ σ, RL X.K β H ρ σ → D.bk σ H
 | .ct ρ => ∀ σ, RL X.K β H ρ σ → D.ct σ H
noncomputable def SS (ev : Loc → Mem → R F) : TS := fun D σ H => ∃ β ρ m f m', Rel X.K cl β m H ∧ RL X.K β H ρ σ ∧ ev ρ m = .ok f m' ∧ ∀ β' H', Ext β H β' H' → Rel X.K cl β' m' H' → EndF X D β' H' f
end
theorem PI.imp {X : L2.Cx} {tg e : Expr} {t t' : TI} (h : PI X tg e t) (i : ∀ σ H R, t' σ H R → t σ H R) : PI X tg e t' := fun pins s σ H R I q => h pins s σ H R I (i σ H R q)
theorem PI.or {X : L2.Cx} {tg e : Expr} {t t' : TI} (h : PI X tg e t) (h' : PI X tg e t') : PI X tg e (fun σ H R => t σ H R ∨ t' σ H R) := fun pins s σ H R I q => q.elim (h pins s σ H R I) (h' pins s σ H R I)
theorem PG.imp {X : L2.Cx} {e : Expr} {t t' : TG} (h : PG X e t) (i : ∀ v σ H Q, t' v σ H Q → t v σ H Q) : PG X e t' := fun pins s σ H v u Q I r q => h pins s σ H v u Q I r (i v σ H Q q)
theorem PGs.imp {X : L2.Cx} {e : List Expr} {t t' : TGs} (h : PGs X e t) (i : ∀ v σ H Q, t' v σ H Q → t v σ H Q) : PGs X e t' := fun pins s σ H v u Q I r q => h pins s σ H v u Q I r (i v σ H Q q)
theorem PS.imp {X : L2.Cx} {e : Stmt} {t t' : TS} (h : PS X e t) (i : ∀ D σ H, t' D σ H → t D σ H) : PS X e t' := fun pins s σ H D I q => h pins s σ H D I (i D σ H q)
theorem PSs.imp {X : L2.Cx} {e : List Stmt} {t t' : TS} (h : PSs X e t) (i : ∀ D σ H, t' D σ H → t D σ H) : PSs X e t' := fun pins s σ H D I q => h pins s σ H D I (i D σ H q)
section
variable {X : L2.Cx} {cl : Cl} {C : D.Cx} {pos : Pos}
theorem SqF.keep {K : PySem.W.Frag} {H H' : Hp} (hf : ∀ {a : Addr} {o : Obj} {u : HO}, H a = some (.frz o u) → H' a = some (.frz o u)) {a : Addr} {vs : List V} (h : SqF K H a vs) : SqF K H' a vs :=
 h.elim (fun ⟨o, e⟩ => .inl ⟨o, hf e⟩) .inr
theorem RW.keep {K : PySem.W.Frag} {β β' : List Addr} {H H' : Hp} (hb : ∃ γ, β' = β ++ γ) (ht : ∀ {a : Addr} {vs : List V}, SqT K H a vs → SqT K H' a vs) (hf : ∀ {a : Addr} {o : Obj} {u : HO}, H a = some (.frz o u) → H' a = some (.frz o u)) {w : W} {v : V} (q : RW K β H w v) : RW K β' H' w v :=
 q.gen ht (fun h => h.keep hf) hf (fun h => by obtain ⟨γ, rfl⟩ := hb; rw [List.getElem?_append_left (List.getElem?_eq_some_iff.mp h).1]; exact h)
theorem RWs.keep {K : PySem.W.Frag} {β β' : List Addr} {H H' : Hp} (hb : ∃ γ, β' = β ++ γ) (ht : ∀ {a : Addr} {vs : List V}, SqT K H a vs → SqT K H' a vs) (hf : ∀ {a : Addr} {o : Obj} {u : HO}, H a = some (.frz o u) → H' a = some (.frz o u)) {w : List W} {v : List V} (q : RWs K β H w v) : RWs K β' H' w v := q.map1 (RW.keep hb ht hf)
theorem is_lst {n : Nat} {a : Addr} {β0 : List Addr} {H0 : Hp} (hb : β0[n]? = some a) : IS X cl (Itl X.K a) (.lst n) β0 H0 := by
 intro β m H i hβ _ _ r
 obtain ⟨γ, rfl⟩ := hβ
 have hb' : (β0 ++ γ)[n]? = some a := by rw [List.getElem?_append_left (List.getElem?_eq_some_iff.mp hb).1]; exact hb
 refine ⟨fun w e => ?_, fun e => ?_⟩
 ·simp only [Src.get] at e
  split at e
  ·rename_i xs e1
   split at e
   ·rename_i w' e2
    cases e
    obtain ⟨a', vs, z, hs, t⟩ := r.getL (.ref hb') e1
    cases z
    obtain ⟨v, e3, q⟩ := t.get e2
    refine ⟨⟨vs, v, hs, e3⟩, fun x H' y => ?_⟩
    obtain ⟨rfl, y⟩ := y
    have := y vs hs
    rw [e3] at this
    cases this
    exact ⟨Ext.refl, r, q⟩
   ·cases e
  ·cases e
 ·simp only [Src.get] at e
  split at e
  ·rename_i xs e1
   split at e
   ·cases e
   ·rename_i e2
    obtain ⟨a', vs, z, hs, t⟩ := r.getL (.ref hb') e1
    cases z
    refine ⟨vs, hs, ?_⟩
    rw [← t.length]
    exact List.getElem?_eq_none_iff.mp e2
  ·cases e
theorem is_tup {a : Addr} {vs : List V} {ws : List W} {β0 : List Addr} {H0 : Hp} (hq0 : SqT X.K H0 a vs) (t0 : RWs X.K β0 H0 ws vs) : IS X cl (Itt X.K a) (.tup ws) β0 H0 := by
 intro β m H i hβ ht hf r
 have hq := ht hq0
 have t := t0.keep hβ ht hf
 refine ⟨fun w e => ?_, fun e => ?_⟩
 ·simp only [Src.get] at e
  split at e
  ·rename_i w' e2
   cases e
   obtain ⟨v, e3, q⟩ := t.get e2
   refine ⟨⟨vs, v, hq, e3⟩, fun x H' y => ?_⟩
   obtain ⟨rfl, y⟩ := y
   have := y vs hq
   rw [e3] at this
   cases this
   exact ⟨Ext.refl, r, q⟩
  ·cases e
 ·simp only [Src.get] at e
  split at e
  ·cases e
  ·rename_i e2
   exact ⟨vs, hq, by rw [← t.length]; exact List.getElem?_eq_none_iff.mp e2⟩
theorem is_fz {a : Addr} {vs : List V} {ws : List W} {β0 : List Addr} {H0 : Hp} (hq0 : SqF X.K H0 a vs) (t0 : RWs X.K β0 H0 ws vs) : IS X cl (Itl X.K a) (.tup ws) β0 H0 := by
 intro β m H i hβ ht hf r
 have hq := (hq0.keep hf).l
 have t := t0.keep hβ ht hf
 refine ⟨fun w e => ?_, fun e => ?_⟩
 ·simp only [Src.get] at e
  split at e
  ·rename_i w' e2
   cases e
   obtain ⟨v, e3, q⟩ := t.get e2
   refine ⟨⟨vs, v, hq, e3⟩, fun x H' y => ?_⟩
   obtain ⟨rfl, y⟩ := y
   have := y vs hq
   rw [e3] at this
   cases this
   exact ⟨Ext.refl, r, q⟩
  ·cases e
 ·simp only [Src.get] at e
  split at e
  ·cases e
  ·rename_i e2
   exact ⟨vs, hq, by rw [← t.length]; exact List.getElem?_eq_none_iff.mp e2⟩
theorem is_enf {a : Addr} {vs : List V} {ws : List W} {β0 : List Addr} {H0 : Hp} (hq0 : SqF X.K H0 a vs) (t0 : RWs X.K β0 H0 ws vs) : IS X cl (Iel X.K a) (.enm (.tup ws)) β0 H0 := by
 intro β m H i hβ ht hf r
 obtain ⟨k1, k2⟩ := is_fz (X := X) (cl := cl) hq0 t0 β m H i hβ ht hf r
 refine ⟨fun w e => ?_, fun e => ?_⟩
 ·simp only [Src.get] at e k1
  split at e
  ·rename_i w' e1
   cases e
   obtain ⟨⟨xs, x, hs, hx⟩, g⟩ := k1 w' e1
   refine ⟨⟨xs, x, hs, hx⟩, fun y H' z => ?_⟩
   obtain ⟨p, v, hp, rfl, rfl, hv⟩ := z
   obtain ⟨_, _, q⟩ := g v H ⟨rfl, hv⟩
   obtain ⟨x2, r2⟩ := r.newT hp [.int i, v]
   exact ⟨x2, r2, .tup (.of upd_same) (.cons (.int _) (.cons (q.mono r x2) .nil))⟩
  ·cases e
  ·cases e
 ·simp only [Src.get] at e k2
  split at e
  ·cases e
  ·rename_i e1
   exact k2 e1
  ·cases e
theorem is_rng {lo : Int} {n : Nat} {β0 : List Addr} {H0 : Hp} : IS X cl (Itr lo n) (.rng lo n) β0 H0 := by
 intro β m H i hβ _ _ r
 refine ⟨fun w e => ?_, fun e => ?_⟩
 ·simp only [Src.get] at e
  split at e
  ·rename_i h
   cases e
   refine ⟨h, fun x H' y => ?_⟩
   obtain ⟨rfl, rfl⟩ := y
   exact ⟨Ext.refl, r, .int _⟩
  ·cases e
 ·simp only [Src.get] at e
  split at e
  ·cases e
  ·rename_i h
   exact Nat.le_of_not_lt h
theorem src_of {β : List Addr} {m : Mem} {H : Hp} {w : W} {v : V} {s : Src} (r : Rel X.K cl β m H) (q : RW X.K β H w v) (e : srcOf m w = some s) :
  ∃ a, v = .ref a ∧ ((∃ n vs, s = .lst n ∧ w = .ref n ∧ β[n]? = some a ∧ SqL X.K H a vs) ∨ (∃ ws vs, s = .tup ws ∧ w = .fz ws ∧ SqF X.K H a vs ∧ RWs X.K β H ws vs) ∨ ∃ ws vs, s = .tup ws ∧ w = .tup ws ∧ SqT X.K H a vs ∧ RWs X.K β H ws vs) := by
 cases q with
 | tup h t => cases e; exact ⟨_, rfl, .inr (.inr ⟨_, _, rfl, rfl, h, t⟩)⟩
 | fz h t => cases e; exact ⟨_, rfl, .inr (.inl ⟨_, _, rfl, rfl, h, t⟩)⟩
 | ref h =>
  simp only [srcOf] at e
  split at e
  ·rename_i xs e1
   cases e
   obtain ⟨a, vs, z, hs, t⟩ := r.getL (.ref h) e1
   cases z
   exact ⟨_, rfl, .inl ⟨_, _, rfl, rfl, h, hs⟩⟩
  ·cases e
 | _ => cases e
theorem src_tup {β : List Addr} {m : Mem} {H : Hp} {ws : List W} {v : V} {s : Src} (r : Rel X.K cl β m H) (q : RW X.K β H (.tup ws) v) (e : srcOf m (.tup ws) = some s) : ∃ a vs, v = .ref a ∧ s = .tup ws ∧ SqT X.K H a vs ∧ RWs X.K β H ws vs := by
 cases q with
 | tup h t => cases e; exact ⟨_, _, rfl, rfl, h, t⟩
theorem src_fz {β : List Addr} {m : Mem} {H : Hp} {ws : List W} {v : V} {s : Src} (r : Rel X.K cl β m H) (q : RW X.K β H (.fz ws) v) (e : srcOf m (.fz ws) = some s) : ∃ a vs, v = .ref a ∧ s = .tup ws ∧ SqF X.K H a vs ∧ RWs X.K β H ws vs := by
 cases q with
 | fz h t => cases e; exact ⟨_, _, rfl, rfl, h, t⟩
theorem src_ref {β : List Addr} {m : Mem} {H : Hp} {n : Nat} {v : V} {s : Src} (r : Rel X.K cl β m H) (q : RW X.K β H (.ref n) v) (e : srcOf m (.ref n) = some s) : ∃ a vs, v = .ref a ∧ s = .lst n ∧ β[n]? = some a ∧ SqL X.K H a vs := by
 obtain ⟨a, rfl, ⟨n', vs, rfl, z, hb, hs⟩ | ⟨_, _, _, z, _⟩ | ⟨_, _, _, z, _⟩⟩ := src_of r q e
 ·cases z; exact ⟨a, vs, rfl, rfl, hb, hs⟩
 ·cases z
 ·cases z
theorem is_str {z : Str} {β0 : List Addr} {H0 : Hp} : IS X cl (Its z) (.tup (signs z)) β0 H0 := by
 intro β m H i hβ _ _ r
 have hg : ∀ j : Nat, (signs z)[j]? = (z.cps[j]?).map fun c => W.str ⟨#[c]⟩ := fun j => by simp [signs]
 refine ⟨fun w e => ?_, fun e => ?_⟩
 ·simp only [Src.get, hg] at e
  cases hc : z.cps[i]? with
  | none => rw [hc] at e; cases e
  | some c =>
   rw [hc] at e
   cases e
   have hi : i < z.cps.size := by
    rcases Nat.lt_or_ge i z.cps.size with h | h
    ·exact h
    ·rw [Array.getElem?_eq_none h] at hc; cases hc
   refine ⟨hi, fun x H' y => ?_⟩
   obtain ⟨rfl, c', h1, rfl⟩ := y
   rw [hc] at h1; cases h1
   exact ⟨Ext.refl, r, .str _⟩
 ·simp only [Src.get, hg] at e
  cases hc : z.cps[i]? with
  | none => exact Array.getElem?_eq_none_iff.mp hc
  | some c => rw [hc] at e; cases e
theorem i_val {tg a : Expr} {d : E} (ha : PE X a (SE X cl (evE C d))) (hd : ∀ ρ m, evI C d ρ m = (evE C d ρ m).bind toI) : PI X tg a (SI X cl (evI C d)) := by
 refine PI.imp (PI.or (PI.or (pi_list ha) (pi_tup ha)) (pi_str ha)) ?_
 rintro σ H Rr ⟨β, ρ, m, src, m', r, l, e, k⟩
 rw [hd] at e
 obtain ⟨x, m1, e1, e⟩ := R.bind_ok e
 unfold toI at e
 split at e
 ·rename_i s e2
  cases e
  cases x with
  | tup xs =>
   refine .inl (.inr ⟨β, ρ, m, _, _, r, l, e1, fun β1 H1 v1 x1 r1 q1 => ?_⟩)
   obtain ⟨a, vs, rfl, rfl, hs, t⟩ := src_tup r1 q1 e2
   exact ⟨a, rfl, ⟨vs, hs⟩, k _ _ _ x1 r1 (is_tup hs t)⟩
  | fz xs =>
   refine .inl (.inl ⟨β, ρ, m, _, _, r, l, e1, fun β1 H1 v1 x1 r1 q1 => ?_⟩)
   obtain ⟨a, vs, rfl, rfl, hs, t⟩ := src_fz r1 q1 e2
   exact ⟨a, rfl, ⟨vs, hs.l⟩, k _ _ _ x1 r1 (is_fz hs t)⟩
  | ref n =>
   refine .inl (.inl ⟨β, ρ, m, _, _, r, l, e1, fun β1 H1 v1 x1 r1 q1 => ?_⟩)
   obtain ⟨a, vs, rfl, rfl, hb, hs⟩ := src_ref r1 q1 e2
   exact ⟨a, rfl, ⟨vs, hs⟩, k _ _ _ x1 r1 (is_lst hb)⟩
  | str z =>
   refine .inr ⟨β, ρ, m, _, _, r, l, e1, fun β1 H1 v1 x1 r1 q1 => ?_⟩
   cases q1
   simp only [srcT] at e2
   split at e2
   ·rename_i hz
    cases e2
    exact ⟨z, rfl, hz, k _ _ _ x1 r1 is_str⟩
   ·cases e2
  | _ => cases e2
 ·cases e
theorem i_rng {tg a : Expr} {d : E} {p : Pos} (hg : Gl X "range") (hm : X.mg "range" = none) (ha : PE X a (SE X cl (evE C d))) (hs : starEach [a] X.env = [(false, eval a X.env)]) : PI X tg (.Call (.Name "range" p) [a] [] pos) (SI X cl (evI C (.rng d))) := by
 refine PI.imp (pi_range1 hg hm (pa_cons ha pa_nil hs) hs) ?_
 rintro σ H Rr ⟨β, ρ, m, src, m', r, l, e, k⟩
 simp only [sI_rng, sI_enm, sI_var, sI_cst, sI_bin, sI_neg, sI_not, sI_and, sI_or, sI_cmp, sI_chain, sI_ife, sI_tup, sI_lst, sI_idx, sI_slc, sI_call, sI_blt, sI_isI, sI_meth, sI_comp, sI_lrng, sI_frz, sI_fld, sI_make, sI_mth, sI_set0, sI_sset] at e
 obtain ⟨x, m1, e1, e⟩ := R.bind_ok e
 refine ⟨β, ρ, m, x, m1, r, l, e1, fun β1 H1 v1 x1 r1 q1 => ?_⟩
 split at e
 ·split at e
  ·rename_i hj
   cases e; cases q1
   exact ⟨_, rfl, hj.1, hj.2, k _ _ _ x1 r1 is_rng⟩
  ·cases e
 ·cases e
theorem is_enl {n : Nat} {a : Addr} {β0 : List Addr} {H0 : Hp} (hb : β0[n]? = some a) : IS X cl (Iel X.K a) (.enm (.lst n)) β0 H0 := by
 intro β m H i hβ ht hf r
 obtain ⟨k1, k2⟩ := is_lst (X := X) (cl := cl) (H0 := H0) hb β m H i hβ ht hf r
 refine ⟨fun w e => ?_, fun e => ?_⟩
 ·simp only [Src.get] at e k1
  split at e
  ·rename_i w' e1
   cases e
   obtain ⟨⟨xs, x, hs, hx⟩, g⟩ := k1 w' e1
   refine ⟨⟨xs, x, hs, hx⟩, fun y H' z => ?_⟩
   obtain ⟨p, v, hp, rfl, rfl, hv⟩ := z
   obtain ⟨_, _, q⟩ := g v H ⟨rfl, hv⟩
   obtain ⟨x2, r2⟩ := r.newT hp [.int i, v]
   exact ⟨x2, r2, .tup (.of upd_same) (.cons (.int _) (.cons (q.mono r x2) .nil))⟩
  ·cases e
  ·cases e
 ·simp only [Src.get] at e k2
  split at e
  ·cases e
  ·rename_i e1
   exact k2 e1
  ·cases e
theorem is_ent {a : Addr} {vs : List V} {ws : List W} {β0 : List Addr} {H0 : Hp} (hq0 : SqT X.K H0 a vs) (t0 : RWs X.K β0 H0 ws vs) : IS X cl (Iet X.K a) (.enm (.tup ws)) β0 H0 := by
 intro β m H i hβ ht hf r
 obtain ⟨k1, k2⟩ := is_tup (X := X) (cl := cl) hq0 t0 β m H i hβ ht hf r
 refine ⟨fun w e => ?_, fun e => ?_⟩
 ·simp only [Src.get] at e k1
  split at e
  ·rename_i w' e1
   cases e
   obtain ⟨⟨xs, x, hs, hx⟩, g⟩ := k1 w' e1
   refine ⟨⟨xs, x, hs, hx⟩, fun y H' z => ?_⟩
   obtain ⟨p, v, hp, rfl, rfl, hv⟩ := z
   obtain ⟨_, _, q⟩ := g v H ⟨rfl, hv⟩
   obtain ⟨x2, r2⟩ := r.newT hp [.int i, v]
   exact ⟨x2, r2, .tup (.of upd_same) (.cons (.int _) (.cons (q.mono r x2) .nil))⟩
  ·cases e
  ·cases e
 ·simp only [Src.get] at e k2
  split at e
  ·cases e
  ·rename_i e1
   exact k2 e1
  ·cases e
theorem i_enm {a : Expr} {d : E} {p tpos : Pos} {elts : List Expr} {x1} (hg : Gl X "enumerate") (hm : X.mg "enumerate" = none) (ha : PE X a (SE X cl (evE C d))) (hs : starEach [a] X.env = [(false, eval a X.env)]) : PI X (.Tuple elts x1 tpos) (.Call (.Name "enumerate" p) [a] [] pos) (SI X cl (evI C (.enm d))) := by
 refine PI.imp (PI.or (pi_enum hg hm (pa_cons ha pa_nil hs) hs) (pi_enumT hg hm (pa_cons ha pa_nil hs) hs)) ?_
 rintro σ H Rr ⟨β, ρ, m, src, m', r, l, e, k⟩
 simp only [sI_rng, sI_enm, sI_var, sI_cst, sI_bin, sI_neg, sI_not, sI_and, sI_or, sI_cmp, sI_chain, sI_ife, sI_tup, sI_lst, sI_idx, sI_slc, sI_call, sI_blt, sI_isI, sI_meth, sI_comp, sI_lrng, sI_frz, sI_fld, sI_make, sI_mth, sI_set0, sI_sset] at e
 obtain ⟨x, m1, e1, e⟩ := R.bind_ok e
 split at e
 ·rename_i s e2
  cases e
  cases x with
  | tup xs =>
   refine .inr ⟨β, ρ, m, _, _, r, l, e1, fun β1 H1 v1 x1 r1 q1 => ?_⟩
   obtain ⟨a, vs, rfl, rfl, hs, t⟩ := src_tup r1 q1 e2
   exact ⟨a, rfl, ⟨vs, hs⟩, k _ _ _ x1 r1 (is_ent hs t)⟩
  | fz xs =>
   refine .inl ⟨β, ρ, m, _, _, r, l, e1, fun β1 H1 v1 x1 r1 q1 => ?_⟩
   obtain ⟨a, vs, rfl, rfl, hs, t⟩ := src_fz r1 q1 e2
   exact ⟨a, rfl, ⟨vs, hs.l⟩, k _ _ _ x1 r1 (is_enf hs t)⟩
  | ref n =>
   refine .inl ⟨β, ρ, m, _, _, r, l, e1, fun β1 H1 v1 x1 r1 q1 => ?_⟩
   obtain ⟨a, vs, rfl, rfl, hb, hs⟩ := src_ref r1 q1 e2
   exact ⟨a, rfl, ⟨vs, hs⟩, k _ _ _ x1 r1 (is_enl hb)⟩
  | _ => cases e2
 ·cases e
theorem RL.set {K : PySem.W.Frag} {β : List Addr} {H : Hp} {ρ : Loc} {σ : L2.St} {i : Nat} {w : W} {v : V} (l : RL K β H ρ σ) (q : RW K β H w v) : RL K β H (ρ.set i (some w)) (σ.set i (some v)) := by
 refine ⟨by simp [l.len], fun {j w'} h => ?_⟩
 by_cases e : i = j
 ·subst e
  have hl : i < ρ.length := by have := (List.getElem?_eq_some_iff.mp h).1; simpa using this
  rw [List.getElem?_set_self hl] at h
  cases h
  exact ⟨v, List.getElem?_set_self (by rw [← l.len]; exact hl), q⟩
 ·rw [List.getElem?_set_ne e] at h ⊢
  exact l.at_ h
theorem g_var {i : Nat} {x : Str} (hN : X.N.Nodup) (hi : X.N[i]? = some x) (hx : L2.Loc X.env.scope x) (hf : X.fn x = true ∨ X.env.scope.names.lookup x = some .local) : PG X (.Name x pos) (SG X cl (evA C (.pt (.var i)))) := by
 refine PG.imp (pg_name hN hi hx hf) ?_
 rintro v σ H Q ⟨β, ρ, m, w, ρ', m', r, l, q, e, k⟩
 simp only [sA_pt, sA_sub, sA_tup, bindT] at e
 cases e
 exact k _ _ _ Ext.refl r (l.set q)
theorem gs_nil : PGs X [] (SGs X cl (evAs C .nil)) := by
 refine PGs.imp pgs_nil ?_
 rintro vs σ H Q ⟨β, ρ, m, ws, ρ', m', r, l, q, e, k⟩
 cases q with
 | nil =>
  simp only [sAs_nil, sAs_cons] at e
  cases e
  exact ⟨rfl, k _ _ _ Ext.refl r l⟩
 | cons _ _ => simp only [sAs_nil, sAs_cons] at e; cases e
theorem gs_cons {a : Expr} {es : List Expr} {da : A} {ds : As} (h1 : PG X a (SG X cl (evA C da))) (h2 : PGs X es (SGs X cl (evAs C ds))) (hs : (assignEach (a :: es) X.env).map (·.2) = assign a X.env :: (assignEach es X.env).map (·.2)) : PGs X (a :: es) (SGs X cl (evAs C (.cons da ds))) := by
 refine PGs.imp (pgs_cons h1 h2 hs) ?_
 rintro vs σ H Q ⟨β, ρ, m, ws, ρ', m', r, l, q, e, k⟩
 cases q with
 | nil => simp only [sAs_nil, sAs_cons] at e; cases e
 | cons q1 q2 =>
  simp only [sAs_nil, sAs_cons] at e
  obtain ⟨ρ1, m1, e1, e⟩ := R.bind_ok e
  refine ⟨_, _, rfl, β, ρ, m, _, ρ1, m1, r, l, q1, e1, fun β1 H1 σ1 x1 r1 l1 => ?_⟩
  exact ⟨β1, ρ1, m1, _, ρ', m', r1, l1, q2.mono r x1, e, fun β2 H2 σ2 x2 r2 l2 => k _ _ _ (x1.trans r1 x2) r2 l2⟩
noncomputable def As.len : As → Nat
 | .nil => 0
 | .cons _ l => l.len + 1
theorem evAs_len {C : D.Cx} : ∀ {ds : As} {ws : List W} {ρ ρ' : Loc} {m m' : Mem}, evAs C ds ws ρ m = .ok ρ' m' → ws.length = ds.len
 | .nil, ws, _, _, _, _, e => by
  cases ws with
  | nil => rfl
  | cons _ _ => simp only [sAs_nil, sAs_cons] at e; cases e
 | .cons a l, ws, _, _, _, _, e => by
  cases ws with
  | nil => simp only [sAs_nil, sAs_cons] at e; cases e
  | cons w ws =>
   simp only [sAs_nil, sAs_cons] at e
   obtain ⟨ρ1, m1, e1, e⟩ := R.bind_ok e
   rw [List.length_cons, evAs_len e]; rfl
theorem PG.or {e : Expr} {t t' : TG} (h : PG X e t) (h' : PG X e t') : PG X e (fun v σ H Q => t v σ H Q ∨ t' v σ H Q) := fun pins s σ H v u Q I r q => q.elim (h pins s σ H v u Q I r) (h' pins s σ H v u Q I r)
theorem g_tup {es : List Expr} {k : Nat} {ds : As} (hc : X.calm = true) (h : PGs X es (SGs X cl (evAs C ds))) (hn : (assignEach es X.env).length = ds.len) (hst : (assignEach es X.env).findIdx? (·.1) = none) : PG X (.Tuple es k pos) (SG X cl (evA C (.tup ds))) := by
 refine PG.imp (PG.or (pg_tup hc h hn hst) (pg_lst hc h hn hst)) ?_
 rintro v σ H Q ⟨β, ρ, m, w, ρ', m', r, l, q, e, k⟩
 simp only [sA_pt, sA_sub, sA_tup] at e
 split at e
 ·rename_i xs e1
  obtain ⟨a, vs, rfl, hs, t⟩ := r.getS q e1
  rcases hs with hs | hs
  ·exact .inr ⟨_, _, rfl, hs, by rw [← t.length]; exact evAs_len e, β, ρ, m, _, ρ', m', r, l, t, e, k⟩
  ·exact .inl ⟨_, _, rfl, hs, by rw [← t.length]; exact evAs_len e, β, ρ, m, _, ρ', m', r, l, t, e, k⟩
 ·cases e
noncomputable def T.ofTs : Ts → As
 | .nil => .nil
 | .cons t ts => .cons (.pt t) (T.ofTs ts)
theorem bindTs_ev {C : D.Cx} : ∀ (ts : Ts) (ws : List W) (ρ ρ' : Loc) (m : Mem), bindTs ts ws ρ = some ρ' → evAs C (T.ofTs ts) ws ρ m = .ok ρ' m
 | .nil, ws, ρ, ρ', m, h => by
  cases ws with
  | nil => simp only [bindTs] at h; cases h; simp only [T.ofTs, sAs_nil, sAs_cons]
  | cons _ _ => simp only [bindTs] at h; cases h
 | .cons t ts, ws, ρ, ρ', m, h => by
  cases ws with
  | nil => simp only [bindTs] at h; cases h
  | cons w ws =>
   simp only [bindTs] at h
   split at h
   ·rename_i ρ1 e1
    simp only [T.ofTs, sAs_nil, sAs_cons, sA_pt, sA_sub, sA_tup, e1, R.bind]
    exact bindTs_ev ts ws ρ1 ρ' m h
   ·cases h
theorem g_ptup {es : List Expr} {k : Nat} {ts : Ts} (h : PG X (.Tuple es k pos) (SG X cl (evA C (.tup (T.ofTs ts))))) : PG X (.Tuple es k pos) (SG X cl (evA C (.pt (.tup ts)))) := by
 refine PG.imp h ?_
 rintro v σ H Q ⟨β, ρ, m, w, ρ', m', r, l, q, e, k⟩
 refine ⟨β, ρ, m, w, ρ', m', r, l, q, ?_, k⟩
 simp only [sA_pt, sA_sub, sA_tup, bindT] at e ⊢
 cases w with
 | tup xs =>
  simp only [getS] at e ⊢
  split at e
  ·rename_i ρ1 e1
   cases e
   exact bindTs_ev _ _ _ _ _ e1
  ·cases e
 | fz xs =>
  simp only [getS, getL] at e ⊢
  split at e
  ·rename_i ρ1 e1
   cases e
   exact bindTs_ev _ _ _ _ _ e1
  ·cases e
 | _ => cases e
theorem so_set : PSet X (fun o i v H Q => ∃ β m wo wi wv m', Rel X.K cl β m H ∧ RW X.K β H wo o ∧ RW X.K β H wi i ∧ RW X.K β H wv v ∧ setop wo wi wv m = .ok () m' ∧ ∀ β' H', Ext β H β' H' → Rel X.K cl β' m' H' → Q H') := by
 intro pins s σ H o i v ov iv u Q I r1 r2 r3 h
 obtain ⟨β, m, wo, wi, wv, m', r, qo, qi, qv, e, k⟩ := h
 unfold setop at e
 split at e
 ·split at e
  ·rename_i xs e1
   split at e
   ·rename_i j e2
    cases e; cases qi
    obtain ⟨a, vs, rfl, hb, ha, t⟩ := r.lst qo e1
    obtain ⟨x2, r2'⟩ := r.setL e1 hb (t.set qv j)
    exact set_list pins s σ H _ _ _ ov iv u Q I r1 r2 r3 ⟨_, _, _, _, rfl, rfl, ha, by rw [← t.length]; exact e2, k _ _ x2 r2'⟩
   ·cases e
  ·cases e
 ·cases e
theorem g_sub {o i : Expr} {do_ di : E} (ho : PE X o (SE X cl (evE C do_))) (hi : PE X i (SE X cl (evE C di))) (ha : ∀ v, assign (.Subscript o i pos) X.env v = (do
   let ov ← holding [v] (eval o X.env)
   let iv ← holding [v, ov] (eval i X.env)
   standAt pos
   holding [v, ov, iv] (setItem ov iv v)
   release [v, ov, iv] [])) : PG X (.Subscript o i pos) (SG X cl (evA C (.sub do_ di))) := by
 refine PG.imp (pg_sub ho hi (so_set (cl := cl)) ha) ?_
 rintro v σ H Q ⟨β, ρ, m, w, ρ', m', r, l, q, e, k⟩
 simp only [sA_pt, sA_sub, sA_tup] at e
 obtain ⟨x, m1, e1, e⟩ := R.bind_ok e
 obtain ⟨y, m2, e2, e⟩ := R.bind_ok e
 obtain ⟨u, m3, e3, e⟩ := R.bind_ok e
 cases e
 refine ⟨β, ρ, m, x, m1, r, l, e1, fun β1 H1 v1 x1 r1 q1 => ?_⟩
 refine ⟨β1, ρ, m1, y, m2, r1, l.mono r x1, e2, fun β2 H2 v2 x2 r2 q2 => ?_⟩
 exact ⟨β2, m2, x, y, w, _, r2, q1.mono r1 x2, q2, (q.mono r x1).mono r1 x2, e3, fun β3 H3 x3 r3 => k _ _ _ ((x1.trans r1 x2).trans r2 x3) r3 (((l.mono r x1).mono r1 x2).mono r2 x3)⟩
theorem ss_nil : PSs X [] (SS X cl (evSs C .nil)) := by
 refine PSs.imp pss_nil ?_
 rintro D σ H ⟨β, ρ, m, f, m', r, l, e, k⟩
 simp only [sSs_nil, sSs_cons] at e
 cases e
 exact k _ _ Ext.refl r σ l
theorem ss_cons {st : Stmt} {rest : List Stmt} {d : S} {ds : Ss} (h1 : PS X st (SS X cl (evS C d))) (h2 : PSs X rest (SS X cl (evSs C ds))) : PSs X (st :: rest) (SS X cl (evSs C (.cons d ds))) := by
 refine PSs.imp (pss_cons h1 h2) ?_
 rintro D σ H ⟨β, ρ, m, f, m', r, l, e, k⟩
 simp only [sSs_nil, sSs_cons] at e
 obtain ⟨f1, m1, e1, e⟩ := R.bind_ok e
 refine ⟨β, ρ, m, f1, m1, r, l, e1, fun β1 H1 x1 r1 => ?_⟩
 cases f1 with
 | nx ρ1 =>
  intro σ1 l1
  exact ⟨β1, ρ1, m1, f, m', r1, l1, e, fun β2 H2 x2 r2 => k _ _ (x1.trans r1 x2) r2⟩
 | rt w => simp only at e; cases e; exact k _ _ x1 r1
 | bk ρ1 => simp only at e; cases e; exact k _ _ x1 r1
 | ct ρ1 => simp only at e; cases e; exact k _ _ x1 r1
theorem st_asg {tg a : Expr} {d : E} {da : A} (he : PE X a (SE X cl (evE C d))) (hg : PG X tg (SG X cl (evA C da))) (hs : swapsWithSole [tg] a pos.line X.env = pure false) (hw : swappedStores [tg] a X.env = pure none) (h1 : (assignEach [tg] X.env).map (·.2) = [assign tg X.env]) : PS X (.Assign [tg] a pos) (SS X cl (evS C (.asg da d))) := by
 refine PS.imp (ps_asg he hg hs hw h1) ?_
 rintro D σ H ⟨β, ρ, m, f, m', r, l, e, k⟩
 simp only [sS_asg, sS_expr, sS_ret, sS_retN, sS_ife, sS_for_, sS_pass, sS_brk, sS_cont, sS_never, sS_fas] at e
 obtain ⟨w, m1, e1, e⟩ := R.bind_ok e
 obtain ⟨ρ2, m2, e2, e⟩ := R.bind_ok e
 cases e
 refine ⟨β, ρ, m, w, m1, r, l, e1, fun β1 H1 v1 x1 r1 q1 => ?_⟩
 exact ⟨β1, ρ, m1, w, ρ2, _, r1, l.mono r x1, q1, e2, fun β2 H2 σ2 x2 r2 l2 => k _ _ (x1.trans r1 x2) r2 σ2 l2⟩
theorem st_set {x : Str} {i : Nat} {a : Expr} {d : E} {p : Pos} (hN : X.N.Nodup) (hi : X.N[i]? = some x) (hx : L2.Loc X.env.scope x) (he : PE X a (SE X cl (evE C d))) (hs : swapsWith a (some (.Name x p)) pos.line X.env = pure false) (hf : X.fn x = true ∨ X.env.scope.names.lookup x = some .local) : PS X (.Assign [.Name x p] a pos) (SS X cl (evS C (.asg (.pt (.var i)) d))) := by
 refine PS.imp (ps_set hN hi hx he hs hf) ?_
 rintro D σ H ⟨β, ρ, m, f, m', r, l, e, k⟩
 simp only [sS_asg, sS_expr, sS_ret, sS_retN, sS_ife, sS_for_, sS_pass, sS_brk, sS_cont, sS_never, sS_fas] at e
 obtain ⟨w, m1, e1, e⟩ := R.bind_ok e
 simp only [sA_pt, sA_sub, sA_tup, bindT, R.bind] at e
 cases e
 exact ⟨β, ρ, m, w, _, r, l, e1, fun β1 H1 v1 x1 r1 q1 => k _ _ x1 r1 _ ((l.mono r x1).set q1)⟩
theorem st_expr {a : Expr} {d : E} (he : PE X a (SE X cl (evE C d))) (hs : swapsWith a none pos.line X.env = pure false) : PS X (.Expr a pos) (SS X cl (evS C (.expr d))) := by
 refine PS.imp (ps_expr he hs) ?_
 rintro D σ H ⟨β, ρ, m, f, m', r, l, e, k⟩
 simp only [sS_asg, sS_expr, sS_ret, sS_retN, sS_ife, sS_for_, sS_pass, sS_brk, sS_cont, sS_never, sS_fas] at e
 obtain ⟨w, m1, e1, e⟩ := R.bind_ok e
 cases e
 exact ⟨β, ρ, m, w, _, r, l, e1, fun β1 H1 v1 x1 r1 q1 => k _ _ x1 r1 _ (l.mono r x1)⟩
theorem st_ret {a : Expr} {d : E} (he : PE X a (SE X cl (evE C d))) : PS X (.Return (some a) pos) (SS X cl (evS C (.ret d))) := by
 refine PS.imp (ps_ret he) ?_
 rintro D σ H ⟨β, ρ, m, f, m', r, l, e, k⟩
 simp only [sS_asg, sS_expr, sS_ret, sS_retN, sS_ife, sS_for_, sS_pass, sS_brk, sS_cont, sS_never, sS_fas] at e
 obtain ⟨w, m1, e1, e⟩ := R.bind_ok e
 cases e
 exact ⟨β, ρ, m, w, _, r, l, e1, fun β1 H1 v1 x1 r1 q1 => k _ _ x1 r1 _ q1⟩
theorem st_retN : PS X (.Return none pos) (SS X cl (evS C .retN)) := by
 refine PS.imp ps_retN ?_
 rintro D σ H ⟨β, ρ, m, f, m', r, l, e, k⟩
 simp only [sS_asg, sS_expr, sS_ret, sS_retN, sS_ife, sS_for_, sS_pass, sS_brk, sS_cont, sS_never, sS_fas] at e
 cases e
 exact k _ _ Ext.refl r _ .non
theorem st_pass : PS X (.Pass pos) (SS X cl (evS C .pass)) := by
 refine PS.imp ps_pass ?_
 rintro D σ H ⟨β, ρ, m, f, m', r, l, e, k⟩
 simp only [sS_asg, sS_expr, sS_ret, sS_retN, sS_ife, sS_for_, sS_pass, sS_brk, sS_cont, sS_never, sS_fas] at e
 cases e
 exact k _ _ Ext.refl r _ l
theorem st_brk : PS X (.Break pos) (SS X cl (evS C .brk)) := by
 refine PS.imp ps_break ?_
 rintro D σ H ⟨β, ρ, m, f, m', r, l, e, k⟩
 simp only [sS_asg, sS_expr, sS_ret, sS_retN, sS_ife, sS_for_, sS_pass, sS_brk, sS_cont, sS_never, sS_fas] at e
 cases e
 exact k _ _ Ext.refl r _ l
theorem st_cont : PS X (.Continue pos) (SS X cl (evS C .cont)) := by
 refine PS.imp ps_continue ?_
 rintro D σ H ⟨β, ρ, m, f, m', r, l, e, k⟩
 simp only [sS_asg, sS_expr, sS_ret, sS_retN, sS_ife, sS_for_, sS_pass, sS_brk, sS_cont, sS_never, sS_fas] at e
 cases e
 exact k _ _ Ext.refl r _ l
theorem st_never {st : Stmt} : PS X st (SS X cl (evS C .never)) := by
 refine PS.imp ps_never ?_
 rintro D σ H ⟨β, ρ, m, f, m', r, l, e, k⟩
 simp only [sS_asg, sS_expr, sS_ret, sS_retN, sS_ife, sS_for_, sS_pass, sS_brk, sS_cont, sS_never, sS_fas] at e
 cases e
theorem st_if {t : Expr} {dt : E} {a b : List Stmt} {da db : Ss} (ht : PT X t (ST X cl (evT C dt))) (ha : PSs X a (SS X cl (evSs C da))) (hb : PSs X b (SS X cl (evSs C db))) : PS X (.If t a b pos) (SS X cl (evS C (.ife dt da db))) := by
 refine PS.imp (ps_if ht ha hb) ?_
 rintro D σ H ⟨β, ρ, m, f, m', r, l, e, k⟩
 simp only [sS_asg, sS_expr, sS_ret, sS_retN, sS_ife, sS_for_, sS_pass, sS_brk, sS_cont, sS_never, sS_fas] at e
 obtain ⟨c, m1, e1, e⟩ := R.bind_ok e
 refine ⟨β, ρ, m, c, m1, r, l, e1, fun β1 H1 x1 r1 => ?_⟩
 split at e
 ·rename_i hc
  rw [if_pos hc]
  exact ⟨β1, ρ, m1, f, m', r1, l.mono r x1, e, fun β2 H2 x2 r2 => k _ _ (x1.trans r1 x2) r2⟩
 ·rename_i hc
  rw [if_neg hc]
  exact ⟨β1, ρ, m1, f, m', r1, l.mono r x1, e, fun β2 H2 x2 r2 => k _ _ (x1.trans r1 x2) r2⟩
theorem Ext.sq {β β' : List Addr} {m : Mem} {H H' : Hp} (r : Rel X.K cl β m H) (x : Ext β H β' H') {a : Addr} {vs : List V} (h : SqT X.K H a vs) : SqT X.K H' a vs := x.sqT r noD h
theorem st_for {tg iter : Expr} {t : T} {it : E} {body : List Stmt} {db : Ss} (hp : PassesOwn (model X.prog X.w) X.A X.env X.xe) (hc : X.calm = true) (hi : PI X tg iter (SI X cl (evI C it))) (hg : PG X tg (SG X cl (evA C (.pt t)))) (hb : PSs X body (SS X cl (evSs C db)))
  (hs : ∀ x, foldedSetIterable iter X.env x = pure x) : PS X (.For tg iter body [] pos) (SS X cl (evS C (.for_ t it db))) := by
 refine PS.imp (ps_for hp hc hi hg hb hs) ?_
 rintro D σ H ⟨β, ρ, m, f, m', r, l, e, k⟩
 simp only [sS_asg, sS_expr, sS_ret, sS_retN, sS_ife, sS_for_, sS_pass, sS_brk, sS_cont, sS_never, sS_fas] at e
 obtain ⟨src, m1, e1, e⟩ := R.bind_ok e
 refine ⟨β, ρ, m, src, m1, r, l, e1, fun β1 H1 J x1 r1 is => ?_⟩
 refine ⟨fun i n σ H => ∃ β ρ m, Ext β1 H1 β H ∧ Rel X.K cl β m H ∧ RL X.K β H ρ σ ∧ forN src.get t (fun ρ m => evSs C db ρ m) n i ρ m = .ok f m', ⟨_, β1, ρ, m1, Ext.refl, r1, l.mono r x1, e⟩, ?_⟩
 rintro i n σ H ⟨β2, ρ2, m2, x2, r2, l2, e2⟩
 have pre : ∃ γ, β2 = β1 ++ γ := let ⟨γ, h, _⟩ := x2.pre; ⟨γ, h⟩
 obtain ⟨go, stop⟩ := is β2 m2 H i pre (fun h => x2.sq r1 h) (fun h => x2.fz r1 noD h) r2
 unfold forN at e2
 split at e2
 ·cases e2
 ·rename_i e3
  cases e2
  exact .inl ⟨stop e3, k _ _ (x1.trans r1 x2) r2 _ l2⟩
 ·rename_i w e3
  obtain ⟨g1, g2⟩ := go w e3
  refine .inr ⟨g1, ?_⟩
  split at e2
  ·cases e2
  ·rename_i n'
   split at e2
   ·cases e2
   ·rename_i ρ3 e4
    obtain ⟨ff, m4, e5, e6⟩ := R.bind_ok e2
    refine ⟨fun σ' H' => ∃ β ρ m, Ext β1 H1 β H' ∧ Rel X.K cl β m H' ∧ RL X.K β H' ρ σ' ∧ forN src.get t (fun ρ m => evSs C db ρ m) n' (i + 1) ρ m = .ok f m', fun σ' H' h => ⟨n', Nat.lt_succ_self _, h⟩, fun x H' y => ?_⟩
    obtain ⟨x3, r3, q3⟩ := g2 x H' y
    refine ⟨β2, ρ2, m2, w, ρ3, m2, r3, l2.mono r2 x3, q3, by simp only [sA_pt, sA_sub, sA_tup, e4], fun β5 H5 σ5 x5 r5 l5 => ?_⟩
    refine ⟨β5, ρ3, m2, ff, m4, r5, l5, e5, fun β6 H6 x6 r6 => ?_⟩
    have x16 := ((x2.trans r2 x3).trans r3 x5).trans r5 x6
    cases ff with
    | nx ρ6 => exact fun σ6 l6 => ⟨β6, ρ6, m4, x16, r6, l6, e6⟩
    | ct ρ6 => exact fun σ6 l6 => ⟨β6, ρ6, m4, x16, r6, l6, e6⟩
    | bk ρ6 => cases e6; exact fun σ6 l6 => k _ _ (x1.trans r1 x16) r6 σ6 l6
    | rt w6 => cases e6; exact fun v6 q6 => k _ _ (x1.trans r1 x16) r6 v6 q6
end
end D
end
section
set_option Elab.async false
set_option linter.all false
set_option maxRecDepth 100000
set_option autoImplicit false
namespace D
open PySem PySem.Spec PyProof.Rows L2
noncomputable def restWp (prog : Program) (w : World) (A : Around) (e elt : Expr) (d : Nat) (acc : Value) (env : Env) (Q : Shared → Prop) : Option Comprehension → Shared → Prop
 | none, s => wpAny (model prog w) A (eval elt env) (fun x s₄ => wpAny (model prog w) A (call (.builtin "list.append") [acc, x]) (fun _ s₅ => Q s₅) (fun _ _ => False) s₄) (fun _ _ => False) s
 | some g', s => wpAny (model prog w) A (eval g'.iter env) (fun x s₄ => wpAny (model prog w) A (pyIter x) (fun it' s₅ => codeAny (model prog w) A (.compStart e (d + 1) it' acc env) (fun r s₆ => match r with
   | .ok _ => Q s₆
   | .error _ => False) s₅) (fun _ _ => False) s₄) (fun _ _ => False) s
theorem compTurn_last (elt target iter : Expr) (gens : List Comprehension) (ifs : List Expr) (scope : Scope) (pos : Pos) (d : Nat) (it acc : Value) (env : Env) (h : gens[d]? = some ⟨target, iter, ifs, 0⟩) (hn : gens[d + 1]? = none) :
  compTurn (.ListComp elt gens scope pos) d it acc env = (do
   standAt iter.pos
   match ← pyNext it with
   | none => pure (.done .next)
   | some v =>
    letOwnedTupleGo target it v
    assign target env v
    let mut ok := true
    for c in ifs do
     if ok then ok ← isTrue c env (eval c env)
    if ok then
     (do let _ ← call (.builtin "list.append") [acc, ← eval elt env])
    again (.compLoop (.ListComp elt gens scope pos) d it acc env)) := by
 unfold compTurn
 simp only [h, hn]
 rfl
theorem compTurn_next (elt target iter target' iter' : Expr) (gens : List Comprehension) (ifs ifs' : List Expr) (scope : Scope) (pos : Pos) (d : Nat) (it acc : Value) (env : Env) (h : gens[d]? = some ⟨target, iter, ifs, 0⟩) (hn : gens[d + 1]? = some ⟨target', iter', ifs', 0⟩) :
  compTurn (.ListComp elt gens scope pos) d it acc env = (do
   standAt iter.pos
   match ← pyNext it with
   | none => pure (.done .next)
   | some v =>
    letOwnedTupleGo target it v
    assign target env v
    let mut ok := true
    for c in ifs do
     if ok then ok ← isTrue c env (eval c env)
    if ok then
     let x ← eval iter' env
     standAt iter'.pos
     let x ← foldedSetIterable iter' env x
     let _ ← runOwn (.compStart (.ListComp elt gens scope pos) (d + 1) (← holding [x] (pyIter x)) acc env) env
    again (.compLoop (.ListComp elt gens scope pos) d it acc env)) := by
 unfold compTurn
 simp only [h, hn]
 rfl
section
variable {prog : Program} {w : World} {A : Around} {R : Result → Shared → Prop} {s : Shared}
theorem compLoop_any {elt target iter : Expr} {gens : List Comprehension} {ifs : List Expr} {scope : Scope} {pos : Pos} {d : Nat} {it acc : Value} {env : Env} (hg : gens[d]? = some ⟨target, iter, ifs, 0⟩) (hn : ∀ g', gens[d + 1]? = some g' → g'.is_async = 0 ∧ ∀ x, foldedSetIterable g'.iter env x = pure x) (I : Nat → Shared → Prop)
  (turn : ∀ n s, I n s → wpAny (model prog w) A (pyNext it) (fun r s₁ => match r with
   | none => R (.ok .next) s₁
   | some v => wpAny (model prog w) A (letOwnedTupleGo target it v) (fun _ s₁' => wpAny (model prog w) A (assign target env v) (fun _ s₂ =>
     wpAny (model prog w) A (forIn ifs true fun c r => if r = true then do let ok ← isTrue c env (eval c env); pure (ForInStep.yield ok) else pure (ForInStep.yield r)) (fun ok s₃ =>
      if ok = true then restWp prog w A (.ListComp elt gens scope pos) elt d acc env (fun s₅ => ∃ m, m < n ∧ I m s₅) gens[d + 1]? s₃
      else ∃ m, m < n ∧ I m s₃) (fun _ _ => False) s₂) (fun _ _ => False) s₁') (fun _ _ => False) s₁) (fun _ _ => False) s)
  (n : Nat) (h : I n s) :
  codeAny (model prog w) A (.compLoop (.ListComp elt gens scope pos) d it acc env) R s := by
 refine codeAny_loop rfl I (fun n s hI => ?_) n h
 show wpAny _ A ((compTurn (.ListComp elt gens scope pos) d it acc env).onRaise (fun x => do noteFrame x env; theTreesLotGoes x)) _ _ s
 refine wpAny_noted ?_
 cases hx : gens[d + 1]? with
 | none =>
  rw [compTurn_last _ _ _ _ _ _ _ _ _ _ _ hg hx]
  refine wpAny_bind (wpAny_standAt (wpAny_bind (wpAny_mono (turn n s hI) (fun r s₁ h₁ => ?_) fun _ _ h' => h'.elim)))
  cases r with
  | none => exact wpAny_pure h₁
  | some v =>
   refine wpAny_bind (wpAny_mono h₁ (fun _ s₁' h₁' => ?_) fun _ _ h' => h'.elim)
   refine wpAny_bind (wpAny_mono h₁' (fun _ s₂ h₂ => wpAny_bind (wpAny_mono h₂ (fun ok s₃ h₃ => ?_) fun _ _ h' => h'.elim)) fun _ _ h' => h'.elim)
   cases ok with
   | false => exact wpAny_pure ⟨rfl, h₃⟩
   | true =>
    rw [hx] at h₃
    exact wpAny_bind (wpAny_bind (wpAny_mono h₃ (fun x s₄ h₄ => wpAny_bind (wpAny_mono h₄ (fun _ s₅ h₅ => wpAny_pure (wpAny_pure ⟨rfl, h₅⟩)) fun _ _ h' => h'.elim)) fun _ _ h' => h'.elim))
 | some g' =>
  obtain ⟨target', iter', ifs', as⟩ := g'
  obtain ⟨h0, hfs⟩ := hn _ hx
  have h0 : as = 0 := h0
  subst h0
  rw [compTurn_next _ _ _ _ _ _ _ _ _ _ _ _ _ _ hg hx]
  refine wpAny_bind (wpAny_standAt (wpAny_bind (wpAny_mono (turn n s hI) (fun r s₁ h₁ => ?_) fun _ _ h' => h'.elim)))
  cases r with
  | none => exact wpAny_pure h₁
  | some v =>
   refine wpAny_bind (wpAny_mono h₁ (fun _ s₁' h₁' => ?_) fun _ _ h' => h'.elim)
   refine wpAny_bind (wpAny_mono h₁' (fun _ s₂ h₂ => wpAny_bind (wpAny_mono h₂ (fun ok s₃ h₃ => ?_) fun _ _ h' => h'.elim)) fun _ _ h' => h'.elim)
   cases ok with
   | false => exact wpAny_pure ⟨rfl, h₃⟩
   | true =>
    rw [hx] at h₃
    refine wpAny_bind (wpAny_mono h₃ (fun x s₄ h₄ => ?_) fun _ _ h' => h'.elim)
    refine wpAny_bind (wpAny_standAt (wpAny_bind (wpAny_of_eq (hfs x) (wpAny_bind (wpAny_holding (wpAny_mono h₄ (fun it' s₅ h₅ => ?_) fun _ _ h' => h'.elim))))))
    refine wpAny_bind (wpAny_runOwn (codeAny_mono h₅ fun r s₆ h₆ => ?_))
    cases r with
    | ok f => exact wpAny_pure ⟨rfl, h₆⟩
    | error e => exact h₆.elim
theorem compStart_any {elt target iter : Expr} {gens : List Comprehension} {ifs : List Expr} {scope : Scope} {pos : Pos} {d : Nat} {it acc : Value} {env : Env} (hg : gens[d]? = some ⟨target, iter, ifs, 0⟩)
  (h0 : codeAny (model prog w) A (.compLoop (.ListComp elt gens scope pos) d it acc env) R s)
  (h : wpAny (model prog w) A (pyIter it) (fun it' s' => codeAny (model prog w) A (.compLoop (.ListComp elt gens scope pos) d it' acc env) R s')
   (notedBy (model prog w) A env fun x s' => R (.error x) s') s) :
  codeAny (model prog w) A (.compStart (.ListComp elt gens scope pos) d it acc env) R s := by
 refine codeAny_of_tree ?_
 show wpAny _ _ ((compStart (.ListComp elt gens scope pos) d it acc env).onRaise (fun x => do noteFrame x env; standAt theWindowsPlace)) _ _ s
 refine wpAny_notedAt ?_
 unfold compStart
 have hcl : (clausesOf (.ListComp elt gens scope pos))[d]? = some ⟨target, iter, ifs, 0⟩ := hg
 simp only [hcl]
 show wpAny _ _ (ask >>= _) _ _ s
 refine wpAny_bind (wpAny_askSetting (wpAny_ite ?_))
 split
 ·first
   | exact wpAny_bind (wpAny_pure (wpAny_pure (And.intro rfl h0)))
   | exact wpAny_pure (And.intro rfl h0)
 ·first
   | exact wpAny_bind (wpAny_rule (wpAny_bind (wpAny_standAt (wpAny_bind (wpAny_mono h (fun it' s' h' => wpAny_pure (And.intro rfl h')) fun _ _ x => x)))))
   | (refine wpAny_bind (wpAny_rule ?_); show wpAny _ _ (standAt iter.pos >>= _) _ _ s; exact wpAny_bind (wpAny_standAt (wpAny_bind (wpAny_mono h (fun it' s' h' => wpAny_pure (And.intro rfl h')) fun _ _ x => x))))
end
end D
end
section
set_option Elab.async false
set_option linter.all false
set_option maxRecDepth 100000
set_option autoImplicit false
namespace D
open PySem PySem.Spec PyProof.Rows L2
noncomputable def PB (X : L2.Cx) (e elt : Expr) (gens : List Comprehension) (d : Nat) (Δ : Addr) (t : L2.St → Hp → (L2.St → Hp → Prop) → Prop) : Prop :=
 ∀ (pins : List (Addr × Obj)) (s : Shared) (σ : L2.St) (H : Hp) (Q : L2.St → Hp → Prop), Inv X pins σ H s → t σ H Q →
  restWp X.prog X.w X.A e elt d (.ref Δ) X.env (fun s' => ∃ σ' H', Inv X pins σ' H' s' ∧ Q σ' H') gens[d + 1]? s
noncomputable def SB (X : L2.Cx) (cl : Cl) (Δ : Addr) (ev : Loc → Mem → List W → R (List W × Loc)) : L2.St → Hp → (L2.St → Hp → Prop) → Prop := fun σ H Q =>
 ∃ β ρ m acc vs acc' ρ' m', Rel X.K cl β m H ∧ RL X.K β H ρ σ ∧ H Δ = some (.lst vs) ∧ Δ ∉ β ∧ RWs X.K β H acc vs ∧ ev ρ m acc = .ok (acc', ρ') m' ∧
  ∀ β' H' σ' vs', ExtD (some Δ) β H β' H' → Rel X.K cl β' m' H' → RL X.K β' H' ρ' σ' → H' Δ = some (.lst vs') → Δ ∉ β' → RWs X.K β' H' acc' vs' → Q σ' H'
section
variable {X : L2.Cx} {cl : Cl} {C : D.Cx} {e elt : Expr} {gens : List Comprehension} {d : Nat} {Δ : Addr}
theorem Ext.priv {β β' : List Addr} {H H' : Hp} {vs : List V} (x : Ext β H β' H') (hd : H Δ = some (.lst vs)) (hn : Δ ∉ β) : H' Δ = some (.lst vs) ∧ Δ ∉ β' := by
 refine ⟨x.keep hd hn (by simp), fun z => ?_⟩
 obtain ⟨γ, rfl, hγ⟩ := x.pre
 rcases List.mem_append.mp z with z | z
 ·exact hn z
 ·rw [hγ _ z] at hd; cases hd
theorem isL {H : Hp} {vs : List V} (hd : H Δ = some (.lst vs)) : ∀ d, some Δ = some d → ∃ vs, H d = some (.lst vs) := fun d z => by cases z; exact ⟨_, hd⟩
theorem isNN {H : Hp} {vs : List V} (hd : H Δ = some (.lst vs)) : ∀ d, some Δ = some d → H d ≠ none := fun d z => by cases z; rw [hd]; exact fun z => nomatch z
theorem b_last {de : E} (hx : X.xe = fun _ _ => False) (hn : gens[d + 1]? = none) (he : PE X elt (SE X cl (evE C de))) : PB X e elt gens d Δ (SB X cl Δ (evG C (.elt de))) := by
 intro pins s σ H Q I h
 obtain ⟨β, ρ, m, acc, vs, acc', ρ', m', r, l, hd, nd, q, ev, k⟩ := h
 simp only [sG_elt, sG_gen] at ev
 obtain ⟨w, m1, e1, ev⟩ := R.bind_ok ev
 split at ev
 ·rename_i hl
  cases ev
  rw [hn]
  have go := he pins s σ H (fun v H1 => ∃ β1, Ext β H β1 H1 ∧ Rel X.K cl β1 m' H1 ∧ RW X.K β1 H1 w v) I ⟨β, ρ, m, w, m', r, l, e1, fun β1 H1 v1 x1 r1 q1 => ⟨β1, x1, r1, q1⟩⟩
  rw [hx] at go
  refine wpAny_mono go (fun u s1 hZ_ => ?_) fun _ _ z => z
  obtain ⟨v, H1, I1, rv, β1, x1, r1, q1⟩ := hZ_
  obtain ⟨hd1, nd1⟩ := x1.priv hd nd
  have hlen : vs.length < sizeLine := Nat.lt_of_lt_of_le (by rw [← q.length]; exact hl) lim_line
  have ap := mt_append (X := X) pins s1 σ H1 (.ref Δ) [v] (.ref Δ) [u] (fun _ H' => H' = upd H1 Δ (.lst (vs ++ [v]))) I1 rfl (.cons rv .nil) ⟨_, vs, v, rfl, rfl, hd1, hlen, rfl⟩
  rw [hx] at ap
  refine wpAny_mono ap (fun _ s2 hZ_ => ?_) fun _ _ z => z
  obtain ⟨_, H2, I2, _, e2⟩ := hZ_
  subst e2
  obtain ⟨x2, r2⟩ := r1.priv (vs' := vs ++ [v]) hd1 nd1
  refine ⟨σ, _, I2, k β1 _ σ (vs ++ [v]) (x1.toD.trans r1 x2 (isNN hd1)) r2 ((l.mono r x1).monoD r1 (isL hd1) x2) upd_same nd1 ?_⟩
  exact ((q.mono r x1).monoD r1 (isL hd1) x2).append (.cons (q1.monoD r1 (isL hd1) x2) .nil)
 ·cases ev
theorem loop_sim {scope : Scope} {pos : Pos} {tg iter : Expr} {ifs : List Expr} {t : T} {di : Es} {rest : G} {J : It} {fp : List Addr} {it : Addr} {tn : Nat → Heap → Prop} {src : Src} {β0 : List Addr} {H0 : Hp}
  (hx : X.xe = fun _ _ => False) (hc : X.calm = true) (hg : gens[d]? = some ⟨tg, iter, ifs, 0⟩) (hn : ∀ g', gens[d + 1]? = some g' → g'.is_async = 0 ∧ ∀ x, foldedSetIterable g'.iter X.env x = pure x)
  (Tu : Turn X.prog X.w X.K tg J fp it tn) (is : IS X cl J src β0 H0) (pg : PG X tg (SG X cl (evA C (.pt t)))) (pif : PIfs X ifs (ST X cl (evIfs C di))) (pb : PB X (.ListComp elt gens scope pos) elt gens d Δ (SB X cl Δ (evG C rest)))
  {pins : List (Addr × Obj)} {s : Shared} {σ : L2.St} {H : Hp} {β : List Addr} {ρ ρ' : Loc} {m m' : Mem} {acc acc' : List W} {vs : List V} {n : Nat} (I : Inv X pins σ H s) (st : tn 0 s.heap) (fpok : ∀ b ∈ fp, FpOk X pins H b)
  (hpre : ∃ γ, β = β0 ++ γ) (htup : ∀ {a : Addr} {vs : List V}, SqT X.K H0 a vs → SqT X.K H a vs) (hfz : ∀ {a : Addr} {o : Obj} {u : HO}, H0 a = some (.frz o u) → H a = some (.frz o u)) (r : Rel X.K cl β m H) (l : RL X.K β H ρ σ) (hd : H Δ = some (.lst vs)) (nd : Δ ∉ β) (q : RWs X.K β H acc vs)
  (ev : compN src.get t (fun ρ m => evIfs C di ρ m) (fun ρ m acc => evG C rest ρ m acc) n 0 ρ m acc = .ok (acc', ρ') m') {Rr : Result → Shared → Prop}
  (fin : ∀ s' σ' H' β' vs', Inv X pins σ' H' s' → ExtD (some Δ) β H β' H' → Rel X.K cl β' m' H' → RL X.K β' H' ρ' σ' → H' Δ = some (.lst vs') → Δ ∉ β' → RWs X.K β' H' acc' vs' → Rr (.ok .next) s') :
  codeAny (model X.prog X.w) X.A (.compLoop (.ListComp elt gens scope pos) d (.ref it) (.ref Δ) X.env) Rr s := by
 have stat : ∀ {H' : Hp}, (∀ b ∈ fp, H' b = none) → ∀ b ∈ fp, FpOk X pins H' b := fun hn b hb => ⟨hn b hb, (fpok b hb).2⟩
 refine compLoop_any hg hn (fun n s' => ∃ i σ' H' β' ρ1 m1 acc1 vs1, Inv X pins σ' H' s' ∧ tn i s'.heap ∧ (∀ b ∈ fp, H' b = none) ∧ ExtD (some Δ) β H β' H' ∧ Rel X.K cl β' m1 H' ∧ RL X.K β' H' ρ1 σ' ∧ H' Δ = some (.lst vs1) ∧ Δ ∉ β' ∧ RWs X.K β' H' acc1 vs1 ∧
  compN src.get t (fun ρ m => evIfs C di ρ m) (fun ρ m acc => evG C rest ρ m acc) n i ρ1 m1 acc1 = .ok (acc', ρ') m') ?_ n ⟨0, σ, H, β, ρ, m, acc, vs, I, st, fun b hb => (fpok b hb).1, Ext.refl, r, l, hd, nd, q, ev⟩
 rintro n s1 ⟨i, σ1, H1, β1, ρ1, m1, acc1, vs1, I1, st1, fr1, x1, r1, l1, hd1, nd1, q1, e1⟩
 have pre1 : ∃ γ, β1 = β0 ++ γ := by
  obtain ⟨γ, h1, _⟩ := x1.pre
  obtain ⟨δ, h2⟩ := hpre
  exact ⟨δ ++ γ, by rw [h1, h2, List.append_assoc]⟩
 obtain ⟨go, stop⟩ := is β1 m1 H1 i pre1 (fun h => x1.sqT r (isL hd) (htup h)) (fun h => x1.fz r (isL hd) (hfz h)) r1
 unfold compN at e1
 split at e1
 ·cases e1
 ·rename_i e2
  cases e1
  refine wpAny_mono (Tu.done X rfl rfl rfl hc i pins s1 σ1 H1 (fun _ _ => False) I1 (stat fr1) st1 (stop e2)) (fun rr s2 hZ_ => ?_) fun _ _ z => z
  obtain ⟨hr, I2⟩ := hZ_
  subst hr
  exact fin s2 σ1 H1 β1 vs1 I2 x1 r1 l1 hd1 nd1 q1
 ·rename_i w e2
  obtain ⟨g1, g2⟩ := go w e2
  split at e1
  ·cases e1
  ·rename_i n'
   split at e1
   ·cases e1
   ·rename_i ρ2 e3
    obtain ⟨b, m3, e4, e5⟩ := R.bind_ok e1
    refine wpAny_mono (Tu.item X rfl rfl rfl hc i pins s1 σ1 H1 (fun _ _ => False) I1 (stat fr1) st1 g1) (fun rr s2 hZ_ => ?_) fun _ _ z => z
    obtain ⟨u, hr, h2⟩ := hZ_
    subst hr
    refine wpAny_mono h2 (fun _ s3 hZ_ => ?_) fun _ _ z => z
    obtain ⟨x, H3, I3, r3, y3, st3, fr3⟩ := hZ_
    obtain ⟨x3, rr3, q3⟩ := g2 x H3 y3
    obtain ⟨hd3, nd3⟩ := x3.priv hd1 nd1
    have I3' := I3.pinned (stat fr3) (Tu.obj _ _ st3)
    have l3 := l1.mono r1 x3
    have go4 := pg _ s3 σ1 H3 x u (fun σ4 H4 => ∃ β4, Ext β1 H3 β4 H4 ∧ Rel X.K cl β4 m1 H4 ∧ RL X.K β4 H4 ρ2 σ4) I3' r3 ⟨β1, ρ1, m1, w, ρ2, m1, rr3, l3, q3, by simp only [sA_pt, sA_sub, sA_tup, e3], fun β4 H4 σ4 x4 r4 l4 => ⟨β4, x4, r4, l4⟩⟩
    rw [hx] at go4
    refine wpAny_mono go4 (fun _ s4 hZ_ => ?_) fun _ _ z => z
    obtain ⟨σ4, H4, I4, β4, x4, r4, l4⟩ := hZ_
    obtain ⟨hd4, nd4⟩ := x4.priv hd3 nd3
    have go5 := pif _ s4 σ4 H4 (fun bb H5 => bb = b ∧ ∃ β5, Ext β4 H4 β5 H5 ∧ Rel X.K cl β5 m3 H5) I4 ⟨β4, ρ2, m1, b, m3, r4, l4, e4, fun β5 H5 x5 r5 => ⟨rfl, β5, x5, r5⟩⟩
    rw [hx] at go5
    refine wpAny_mono go5 (fun bb s5 hZ_ => ?_) fun _ _ z => z
    obtain ⟨H5, I5, hb, β5, x5, r5⟩ := hZ_
    subst hb
    obtain ⟨hd5, nd5⟩ := x5.priv hd4 nd4
    have l5 := l4.mono r4 x5
    have x15 : Ext β1 H1 β5 H5 := (x3.trans rr3 x4).trans r4 x5
    have x05 : ExtD (some Δ) β H β5 H5 := x1.trans r1 x15.toD (isNN hd1)
    have q5 := q1.mono r1 x15
    have again : ∀ {σ' : L2.St} {H' : Hp} {s' : Shared} {β' : List Addr} {ρ4 : Loc} {m4 : Mem} {acc4 : List W} {vs4 : List V}, Inv X (pins ++ pinsAt fp s3.heap) σ' H' s' → ExtD (some Δ) β H β' H' → Rel X.K cl β' m4 H' → RL X.K β' H' ρ4 σ' → H' Δ = some (.lst vs4) → Δ ∉ β' → RWs X.K β' H' acc4 vs4 →
      compN src.get t (fun ρ m => evIfs C di ρ m) (fun ρ m acc => evG C rest ρ m acc) n' (i + 1) ρ4 m4 acc4 = .ok (acc', ρ') m' →
      ∃ mm, mm < n' + 1 ∧ ∃ i σ' H' β' ρ1 m1 acc1 vs1, Inv X pins σ' H' s' ∧ tn i s'.heap ∧ (∀ b ∈ fp, H' b = none) ∧ ExtD (some Δ) β H β' H' ∧ Rel X.K cl β' m1 H' ∧ RL X.K β' H' ρ1 σ' ∧ H' Δ = some (.lst vs1) ∧ Δ ∉ β' ∧ RWs X.K β' H' acc1 vs1 ∧
       compN src.get t (fun ρ m => evIfs C di ρ m) (fun ρ m acc => evG C rest ρ m acc) mm i ρ1 m1 acc1 = .ok (acc', ρ') m' := fun {σ' H' s' β' ρ4 m4 acc4 vs4} I' x' r' l' hd' nd' q' e' => by
     refine ⟨n', Nat.lt_succ_self _, i + 1, σ', H', β', ρ4, m4, acc4, vs4, I'.unpinned, Tu.keep _ _ _ st3 fun b hb o eo => (I'.pin (b, o) (List.mem_append_right _ (List.mem_append_right _ (mem_pinsAt hb eo)))).1, fun b hb => ?_, x', r', l', hd', nd', q', e'⟩
     obtain ⟨o, eo, _⟩ := Tu.obj _ _ st3 b hb
     exact (I'.pin (b, o) (List.mem_append_right _ (List.mem_append_right _ (mem_pinsAt hb eo)))).2.1
    cases bb with
    | false => exact again I5 x05 r5 l5 hd5 nd5 q5 e5
    | true =>
     simp only [if_true] at e5 ⊢
     obtain ⟨p, m6, e6, e7⟩ := R.bind_ok e5
     obtain ⟨acc6, ρ6⟩ := p
     have go6 := pb _ s5 σ4 H5 (fun σ6 H6 => ∃ β6 vs6, ExtD (some Δ) β5 H5 β6 H6 ∧ Rel X.K cl β6 m6 H6 ∧ RL X.K β6 H6 ρ6 σ6 ∧ H6 Δ = some (.lst vs6) ∧ Δ ∉ β6 ∧ RWs X.K β6 H6 acc6 vs6) I5 ⟨β5, ρ2, m3, acc1, vs1, acc6, ρ6, m6, r5, l5, hd5, nd5, q5, e6, fun β6 H6 σ6 vs6 x6 r6 l6 hd6 nd6 q6 => ⟨β6, vs6, x6, r6, l6, hd6, nd6, q6⟩⟩
     have mono : ∀ {Q Q' : Shared → Prop} {o : Option Comprehension} {s : Shared}, (∀ s, Q s → Q' s) → restWp X.prog X.w X.A (.ListComp elt gens scope pos) elt d (.ref Δ) X.env Q o s → restWp X.prog X.w X.A (.ListComp elt gens scope pos) elt d (.ref Δ) X.env Q' o s := by
      intro Q Q' o s hq h
      cases o with
      | none => exact wpAny_mono h (fun _ _ h => wpAny_mono h (fun _ s z => hq s z) fun _ _ z => z) fun _ _ z => z
      | some g => exact wpAny_mono h (fun _ _ h => wpAny_mono h (fun _ s z => codeAny_mono z fun rr s' z' => by
        cases rr with
        | ok f => exact hq _ z'
        | error e => exact z') fun _ _ z => z) fun _ _ z => z
     refine mono (fun s6 hZ_ => ?_) go6
     obtain ⟨σ6, H6, I6, β6, vs6, x6, r6, l6, hd6, nd6, q6⟩ := hZ_
     exact again I6 (x05.trans r5 x6 (isNN hd5)) r6 l6 hd6 nd6 q6 e7
theorem b_gen {scope : Scope} {pos : Pos} {tg iter : Expr} {ifs : List Expr} {t : T} {dit : E} {di : Es} {rest : G} (hx : X.xe = fun _ _ => False) (hc : X.calm = true) (hg : gens[d + 1]? = some ⟨tg, iter, ifs, 0⟩) (hn : ∀ g', gens[d + 1 + 1]? = some g' → g'.is_async = 0 ∧ ∀ x, foldedSetIterable g'.iter X.env x = pure x)
  (hi : PI X tg iter (SI X cl (evI C dit))) (pg : PG X tg (SG X cl (evA C (.pt t)))) (pif : PIfs X ifs (ST X cl (evIfs C di))) (pb : PB X (.ListComp elt gens scope pos) elt gens (d + 1) Δ (SB X cl Δ (evG C rest))) :
  PB X (.ListComp elt gens scope pos) elt gens d Δ (SB X cl Δ (evG C (.gen t [] dit di rest))) := by
 intro pins s σ H Q I h
 obtain ⟨β, ρ, m, acc, vs, acc', ρ', m', r, l, hd, nd, q, ev, k⟩ := h
 simp only [sG_elt, sG_gen, clr] at ev
 obtain ⟨src, m1, e1, ev⟩ := R.bind_ok ev
 rw [hg]
 have go := hi pins s σ H (fun J H1 => ∃ β1, Ext β H β1 H1 ∧ Rel X.K cl β1 m1 H1 ∧ IS X cl J src β1 H1) I ⟨β, ρ, m, src, m1, r, l, e1, fun β1 H1 J x1 r1 is => ⟨β1, x1, r1, is⟩⟩
 rw [hx] at go
 refine wpAny_mono go (fun v s1 h1 => wpAny_mono h1 (fun itv s2 h2 => ?_) fun _ _ z => z) fun _ _ z => z
 obtain ⟨it, fp, tn, J, H1, e2, I1, Tu, st, fpok, β1, x1, r1, is⟩ := h2
 subst e2
 obtain ⟨hd1, nd1⟩ := x1.priv hd nd
 have loop : codeAny (model X.prog X.w) X.A (.compLoop (.ListComp elt gens scope pos) (d + 1) (.ref it) (.ref Δ) X.env) (fun rr s₆ => match rr with
   | .ok _ => ∃ σ' H', Inv X pins σ' H' s₆ ∧ Q σ' H'
   | .error _ => False) s2 :=
  loop_sim hx hc hg hn Tu is pg pif pb I1 st fpok ⟨[], by simp⟩ (fun h => h) (fun h => h) r1 (l.mono r x1) hd1 nd1 (q.mono r x1) ev fun s' σ' H' β' vs' I' x' r' l' hd' nd' q' => ⟨σ', H', I', k β' H' σ' vs' (x1.toD.trans r1 x' (isNN hd1)) r' l' hd' nd' q'⟩
 exact compStart_any hg loop (Tu.self _ 0 _ _ _ st loop)
theorem RL.clr {K : PySem.W.Frag} {β : List Addr} {H : Hp} : ∀ {js : List Nat} {ρ : Loc} {σ : L2.St}, RL K β H ρ σ → RL K β H (D.clr js ρ) (L2.clr js σ)
 | [], _, _, l => l
 | j :: js, ρ, σ, l => by
  refine RL.clr (js := js) ⟨by simp [l.len], fun {i w} h => ?_⟩
  by_cases e : j = i
  ·subst e
   rw [List.getElem?_set] at h
   rw [if_pos rfl] at h
   split at h <;> cases h
  ·rw [List.getElem?_set_ne e] at h ⊢
   exact l.at_ h
theorem comp_any {scope : Scope} {pos : Pos} {js : List Nat} {tg iter : Expr} {ifs : List Expr} {t : T} {dit : E} {di : Es} {rest : G} (hc : X.calm = true) (ok : CompOk X.N js scope X.env.scope) (hg : gens[0]? = some ⟨tg, iter, ifs, 0⟩) (hn : ∀ g', gens[1]? = some g' → g'.is_async = 0 ∧ ∀ env x, foldedSetIterable g'.iter env x = pure x)
  (hi : PI X tg iter (SI X cl (evI C dit))) (pg : ∀ cl' s₀ H₀ fp pn, PG (X.comp scope cl' s₀ H₀ fp pn) tg (SG (X.comp scope cl' s₀ H₀ fp pn) cl (evA C (.pt t)))) (pif : ∀ cl' s₀ H₀ fp pn, PIfs (X.comp scope cl' s₀ H₀ fp pn) ifs (ST (X.comp scope cl' s₀ H₀ fp pn) cl (evIfs C di)))
  (pb : ∀ cl' s₀ H₀ fp pn Δ, PB (X.comp scope cl' s₀ H₀ fp pn) (.ListComp elt gens scope pos) elt gens 0 Δ (SB (X.comp scope cl' s₀ H₀ fp pn) cl Δ (evG C rest)))
  (hs : ∀ x, foldedSetIterable iter X.env x = pure x) {pins : List (Addr × Obj)} {s : Shared} {σ : L2.St} {H : Hp} {Q : VK} (I : Inv X pins σ H s) (h : SE X cl (evE C (.comp (.gen t js dit di rest))) σ H Q) {p : Pos} {use : Option (Value → Sem Unit)} {Q' : Value → Shared → Prop}
  (fin : ∀ (D Cf : Addr) (s' : Shared) (H' : Hp), (∀ h', (∀ b o, b ≠ Cf → s'.heap.get? b = some o → h'.get? b = some o) → Inv X pins σ H' { s' with heap := h' }) → Q (.ref D) H' → (∃ m, s'.heap.Ns Cf m) → H' Cf = none → Cf ≠ X.env.locals → X.s₀.heap.objs.size ≤ Cf → (∀ x c, X.env.cells.lookup x = some c → c ≠ Cf) → (∀ p ∈ X.pn ++ pins, p.1 ≠ Cf) →
   compPost (model X.prog X.w) X.A X.xe use Q' (.ref D) Cf (.ok .next) s') :
  wpAny (model X.prog X.w) X.A (comprehension (.ListComp elt gens scope pos) scope X.env p (newList []) false (eval iter X.env) use) Q' X.xe s := by
 obtain ⟨β, ρ, m, w, m', r, l, e, k⟩ := h
 simp only [sE_var, sE_cst, sE_bin, sE_neg, sE_not, sE_and, sE_or, sE_cmp, sE_chain, sE_ife, sE_tup, sE_lst, sE_idx, sE_slc, sE_call, sE_blt, sE_isI, sE_meth, sE_comp, sE_lrng, sE_frz, sE_fld, sE_make, sE_mth, sE_set0, sE_sset] at e
 obtain ⟨⟨ws, ρ9⟩, m9, e8, e9⟩ := R.bind_ok e
 cases e9
 clear e
 simp only [sG_elt, sG_gen] at e8
 obtain ⟨src, m1, e1, e⟩ := R.bind_ok e8
 clear e8
 have hgs : ∃ gs, gens = ⟨tg, iter, ifs, 0⟩ :: gs := by
  cases gens with
  | nil => simp at hg
  | cons g gs => simp at hg; exact ⟨gs, by rw [hg]⟩
 obtain ⟨gs, rfl⟩ := hgs
 have hclos : closureFor scope X.env = pure (closL X.env scope.names []) := closureFor_eq fun y hy hk => I.ok.has y.1 (ok.free y hy hk)
 refine wpAny_comprehension_free rfl hs hclos ok.kind ok.loc (thn (hi pins s σ H (fun J H1 => ∃ β1, Ext β H β1 H1 ∧ Rel X.K cl β1 m1 H1 ∧ IS X cl J src β1 H1) I ⟨β, ρ, m, src, m1, r, l, e1, fun β1 H1 J x1 r1 is => ⟨β1, x1, r1, is⟩⟩) fun v s1 h1 => thn h1 fun itv s2 h2 => ?_)
 obtain ⟨it, fp, tn, J, H2, e2, I2, Tu, st2, f2, β2, x2, r2, is⟩ := h2
 subst e2
 have hD2 : H2 s2.heap.objs.size = none := I2.fresh
 refine wpAny_newObj_type ?_
 have I3 : Inv X pins σ (upd H2 s2.heap.objs.size (.lst [])) { s2 with heap := s2.heap.push { cls := .type "list", dict := none, data := .seq ([] : List Value).toArray } } :=
  I2.lnew (its := []) (t' := s2.toks) .nil (Nat.zero_le _)
 generalize hs3 : ({ s2 with heap := s2.heap.push { cls := .type "list", dict := none, data := .seq ([] : List Value).toArray } } : Shared) = s3 at I3 ⊢
 have keep3 : ∀ b o, s2.heap.get? b = some o → s3.heap.get? b = some o := fun b o e => by rw [← hs3]; exact Heap.get?_push_of_some _ e
 have hfp2 : ∀ b ∈ fp, b < s2.heap.objs.size := fun b hb => by
  obtain ⟨o, e, _⟩ := Tu.obj _ _ st2 b hb
  exact Heap.lt_size e
 have hsz3 : s3.heap.objs.size = s2.heap.objs.size + 1 := by rw [← hs3]; exact Heap.size_push _ _
 have f3 : ∀ b ∈ fp, FpOk X pins (upd H2 s2.heap.objs.size (.lst [])) b := fun b hb => ⟨by rw [upd_ne (Nat.ne_of_lt (hfp2 b hb))]; exact (f2 b hb).1, (f2 b hb).2⟩
 refine wpAny_newFunctionEnv ok.nocell (by intro y hy; simp at hy) (fun h₁ hns₁ hsb₁ => ?_) ok.kind
 have old : ∀ b o, s3.heap.get? b = some o → h₁.get? b = some o := fun b o e => hsb₁.extBut b o (Nat.ne_of_lt (Heap.lt_size e)) (Heap.get?_push_of_some _ e)
 have I4 : Inv (X.comp scope (closL X.env scope.names []) s3 (upd H2 s2.heap.objs.size (.lst [])) fp pins) [] (L2.clr js σ) (upd H2 s2.heap.objs.size (.lst [])) { s3 with heap := h₁, toks := s3.toks + ([] : List (Str × Value)).length } :=
  I3.comp ok f3 (fun b hb => by rw [hsz3]; exact Nat.lt_succ_of_lt (hfp2 b hb)) hns₁ old (fun x => rfl)
 have st4 : tn 0 h₁ := Tu.keep _ _ _ st2 fun b hb o e => old _ _ (keep3 _ _ e)
 have stat : ∀ {H' : Hp}, (∀ b ∈ fp, H' b = none) → ∀ b ∈ fp, FpOk (X.comp scope (closL X.env scope.names []) s3 (upd H2 s2.heap.objs.size (.lst [])) fp pins) [] H' b := fun {H'} hn b hb => by
  refine ⟨hn b hb, ?_, fun z => ?_, .inl hb, fun x c e => ?_, fun p hp => ?_⟩
  ·show b ≠ s3.heap.objs.size
   exact Nat.ne_of_lt (by rw [hsz3]; exact Nat.lt_succ_of_lt (hfp2 b hb))
  ·rcases List.mem_cons.mp (I3.stkSub b z) with q | q
   ·exact (f2 b hb).2.1 q
   ·exact (f2 b hb).2.2.1 q
  ·exact (f2 b hb).2.2.2.2.1 x c (closL_sub _ _ (by simp) e)
  ·exact (f2 b hb).2.2.2.2.2 p (by simpa using hp)
 have x3 : Ext β2 H2 β2 (upd H2 s2.heap.objs.size (.lst [])) := ⟨⟨[], by simp, by simp⟩, fun h _ _ => by rw [upd_ne (ne_of_none h hD2)]; exact h⟩
 have r3 : Rel X.K cl β2 m1 (upd H2 s2.heap.objs.size (.lst [])) := ⟨r2.len, r2.nd, fun h1 h2 => by
  have q := r2.obj h1 h2
  obtain ⟨u, e, _⟩ := q.ex
  exact q.mono r2 x3 (upd_ne (ne_of_none e hD2))⟩
 have l3 : RL X.K β2 (upd H2 s2.heap.objs.size (.lst [])) (D.clr js ρ) (L2.clr js σ) := ((l.mono r x2).mono r2 x3).clr
 have nD : s2.heap.objs.size ∉ β2 := r2.nin hD2
 have hD : H s2.heap.objs.size = none := by
  cases z : H s2.heap.objs.size with
  | none => rfl
  | some o =>
   by_cases hb : s2.heap.objs.size ∈ β
   ·obtain ⟨γ, hγ, _⟩ := x2.pre
    exact absurd (by rw [hγ]; exact List.mem_append_left _ hb) nD
   ·have := x2.keep z hb (by simp)
    rw [hD2] at this; cases this
 have loop : ∀ s₄ : Shared, s₄ = { s3 with heap := h₁, toks := s3.toks + ([] : List (Str × Value)).length } →
   codeAny (model X.prog X.w) X.A (.compLoop (.ListComp elt (⟨tg, iter, ifs, 0⟩ :: gs) scope pos) 0 (.ref it) (.ref s2.heap.objs.size) (compEnvC scope (closL X.env scope.names []) s3.heap.objs.size X.env))
    (compPost (model X.prog X.w) X.A X.xe use Q' (.ref s2.heap.objs.size) s3.heap.objs.size) s₄ := by
  intro s₄ e₄
  subst e₄
  refine loop_sim (X := X.comp scope (closL X.env scope.names []) s3 (upd H2 s2.heap.objs.size (.lst [])) fp pins) (cl := cl) (C := C) (Δ := s2.heap.objs.size) rfl hc rfl (fun g' hg' => ⟨(hn g' hg').1, (hn g' hg').2 _⟩) Tu is (pg _ _ _ _ _) (pif _ _ _ _ _) (pb _ _ _ _ _ _)
   I4 st4 (stat fun b hb => (f3 b hb).1) ⟨[], by simp⟩ (fun h => x3.sqT r2 noD h) (fun h => x3.fz r2 noD h) r3 l3 upd_same nD .nil e ?_
  intro s' σ' H' β' vs' I' x' r' l' hd' nd' q'
  obtain ⟨m6, hm6, _⟩ := id I'.loc
  have rout := r'.out hd' nd' q'
  have xout : Ext β H (β' ++ [s2.heap.objs.size]) H' := by
   obtain ⟨γ, hγ, fγ⟩ := x2.pre
   obtain ⟨δ, hδ, fδ⟩ := x'.pre
   refine ⟨⟨γ ++ δ ++ [s2.heap.objs.size], by rw [hδ, hγ]; simp, fun a ha => ?_⟩, fun {a o} h hb _ => ?_⟩
   ·rcases List.mem_append.mp ha with ha | ha
    ·rcases List.mem_append.mp ha with ha | ha
     ·exact fγ a ha
     ·have z3 := fδ a ha
      have na : a ≠ s2.heap.objs.size := by
       rintro rfl
       rw [upd_same] at z3; cases z3
      rw [upd_ne na] at z3
      cases z : H a with
      | none => rfl
      | some o =>
       by_cases hb : a ∈ β
       ·obtain ⟨u, eu, _⟩ := r2.ex (a := a) (by rw [hγ]; exact List.mem_append_left _ hb)
        rw [z3] at eu; cases eu
       ·have := x2.keep z hb (by simp)
        rw [z3] at this; cases this
    ·simp at ha; rw [ha]; exact hD
   ·have h2 := x2.keep h hb (by simp)
    have na : a ≠ s2.heap.objs.size := ne_of_none h hD
    have nb : a ∉ β2 := fun z => by
     rw [hγ] at z
     rcases List.mem_append.mp z with z | z
     ·exact hb z
     ·rw [fγ a z] at h; cases h
    exact x'.keep (by rw [upd_ne na]; exact h2) nb (by simpa using na)
  have qout : Q (.ref s2.heap.objs.size) H' := k _ _ _ xout rout (.ref (r'.last _))
  refine fin _ _ s' H' (fun h' hk => I3.uncomp f3 I' hk) qout ⟨m6, hm6⟩ I'.free (Nat.ne_of_gt (Nat.lt_of_lt_of_le I3.lt (Nat.le_refl _))) I3.sz (fun x c e => ?_) (fun p hp => Nat.ne_of_lt (Heap.lt_size (I3.pin p hp).1))
  obtain ⟨v, o, q, _⟩ := I3.cell x c e
  exact Nat.ne_of_lt (Heap.lt_size q)
 exact compStart_any rfl (loop _ rfl) (Tu.self _ 0 _ _ _ st4 (loop _ rfl))
variable {scope : Scope} {pos : Pos} {js : List Nat} {tg iter : Expr} {ifs : List Expr} {t : T} {dit : E} {di : Es} {rest : G}
theorem s_comp (hc : X.calm = true) (ok : CompOk X.N js scope X.env.scope) (hg : gens[0]? = some ⟨tg, iter, ifs, 0⟩) (hn : ∀ g', gens[1]? = some g' → g'.is_async = 0 ∧ ∀ env x, foldedSetIterable g'.iter env x = pure x)
  (hi : PI X tg iter (SI X cl (evI C dit))) (pg : ∀ cl' s₀ H₀ fp pn, PG (X.comp scope cl' s₀ H₀ fp pn) tg (SG (X.comp scope cl' s₀ H₀ fp pn) cl (evA C (.pt t)))) (pif : ∀ cl' s₀ H₀ fp pn, PIfs (X.comp scope cl' s₀ H₀ fp pn) ifs (ST (X.comp scope cl' s₀ H₀ fp pn) cl (evIfs C di)))
  (pb : ∀ cl' s₀ H₀ fp pn Δ, PB (X.comp scope cl' s₀ H₀ fp pn) (.ListComp elt gens scope pos) elt gens 0 Δ (SB (X.comp scope cl' s₀ H₀ fp pn) cl Δ (evG C rest)))
  (hs : ∀ x, foldedSetIterable iter X.env x = pure x) {pp : Pos} (hev : eval (.ListComp elt gens scope pos) X.env = comprehension (.ListComp elt gens scope pos) scope X.env pp (newList []) false (eval iter X.env) none) : PE X (.ListComp elt gens scope pos) (SE X cl (evE C (.comp (.gen t js dit di rest)))) := by
 intro pins s σ H Q I h
 rw [hev]
 refine comp_any hc ok hg hn hi pg pif pb hs I h ?_
 intro D Cf s' H' hI q hm hn h1 h2 h3 h4
 obtain ⟨m, hm⟩ := hm
 exact ⟨m, hm, fun h' hs' => ⟨.ref D, H', hI h' fun b o hb e => hs'.extBut b o hb e, rfl, q⟩⟩
theorem st_setC {i : Nat} {y : Str} {py spos : Pos} {gs : List Comprehension} (hc : X.calm = true) (hN : X.N.Nodup) (hy : X.N[i]? = some y) (hx : L2.Loc X.env.scope y) (ok : CompOk X.N js scope X.env.scope) (hn : ∀ g', gs[0]? = some g' → g'.is_async = 0 ∧ ∀ env x, foldedSetIterable g'.iter env x = pure x)
  (hi : PI X tg iter (SI X cl (evI C dit))) (pg : ∀ cl' s₀ H₀ fp pn, PG (X.comp scope cl' s₀ H₀ fp pn) tg (SG (X.comp scope cl' s₀ H₀ fp pn) cl (evA C (.pt t)))) (pif : ∀ cl' s₀ H₀ fp pn, PIfs (X.comp scope cl' s₀ H₀ fp pn) ifs (ST (X.comp scope cl' s₀ H₀ fp pn) cl (evIfs C di)))
  (pb : ∀ cl' s₀ H₀ fp pn Δ, PB (X.comp scope cl' s₀ H₀ fp pn) (.ListComp elt (⟨tg, iter, ifs, 0⟩ :: gs) scope pos) elt (⟨tg, iter, ifs, 0⟩ :: gs) 0 Δ (SB (X.comp scope cl' s₀ H₀ fp pn) cl Δ (evG C rest)))
  (hs : ∀ x, foldedSetIterable iter X.env x = pure x) (hsw : swapsWith (.ListComp elt (⟨tg, iter, ifs, 0⟩ :: gs) scope pos) (some (.Name y py)) spos.line X.env = pure true) (hf : X.fn y = true ∨ X.env.scope.names.lookup y = some .local) :
  PS X (.Assign [.Name y py] (.ListComp elt (⟨tg, iter, ifs, 0⟩ :: gs) scope pos) spos) (SS X cl (evS C (.asg (.pt (.var i)) (.comp (.gen t js dit di rest))))) := by
 intro pins s σ H D I h
 obtain ⟨β, ρ, m, f, m', r, l, e, k⟩ := h
 simp only [sS_asg, sS_expr, sS_ret, sS_retN, sS_ife, sS_for_, sS_pass, sS_brk, sS_cont, sS_never, sS_fas] at e
 obtain ⟨w, m1, e1, e⟩ := R.bind_ok e
 simp only [sA_pt, sA_sub, sA_tup, bindT, R.bind] at e
 cases e
 have h : SE X cl (evE C (.comp (.gen t js dit di rest))) σ H (fun v H' => D.nx (σ.set i (some v)) H') := ⟨β, ρ, m, w, _, r, l, e1, fun β1 H1 v1 x1 r1 q1 => k _ _ x1 r1 _ ((l.mono r x1).set q1)⟩
 rw [exec_Assign_Name_used _ _ _ _ hsw]
 refine wpAny_bind (wpAny_standAt (wpAny_bind ?_))
 show wpAny _ X.A (do let _ ← comprehension (.ListComp elt (⟨tg, iter, ifs, 0⟩ :: gs) scope pos) scope X.env _ (newList []) false (eval iter X.env) (some (assign (.Name y py) X.env))) _ _ s
 refine wpAny_bind (wpAny_mono (comp_any (use := some (assign (.Name y py) X.env)) (Q' := fun _ s' => SP X pins D .next s') hc ok rfl (by simpa using hn) hi pg pif pb hs I h ?_) (fun _ s' hq => wpAny_pure (wpAny_pure hq)) fun _ _ e => e)
 intro Dl Cf s' H' hI q hm hn h1 h2 h3 h4
 obtain ⟨m, hm⟩ := hm
 have I' : Inv X pins σ H' s' := hI s'.heap fun b o _ e => e
 refine wpAny_assign_Name (store_ok2 I' hN hy hx (v := .ref Dl) (u := .ref Dl) rfl (fun s2 I2 hsb => ?_) hf)
 obtain ⟨a, sb, ha⟩ := hsb
 have hne : Cf ≠ a := by
  rcases ha with rfl | ha
  ·exact h1
  ·exact (h3 _ _ ha).symm
 refine ⟨m, hm.sameBut sb hne, fun h' hs' => ⟨_, H', ?_, q⟩⟩
 exact I2.turned (t' := s2.toks) (it := Cf) (fun b o hb e => hs'.extBut b o hb e) hn h1 (.inr h2) h3 h4
theorem ifs_nil : PIfs X [] (ST X cl (evIfs C .nil)) := by
 intro pins s σ H Q I h
 obtain ⟨β, ρ, m, b, m', r, l, e, k⟩ := h
 simp only [sIfs_nil, sIfs_cons] at e
 cases e
 exact pifs_nil pins s σ H Q I (k _ _ Ext.refl r)
theorem ifs_one {a : Expr} {da : E} (ha : PT X a (ST X cl (evT C da))) : PIfs X [a] (ST X cl (evIfs C (.cons da .nil))) := by
 intro pins s σ H Q I h
 refine pifs_one ha pins s σ H Q I ?_
 obtain ⟨β, ρ, m, b, m', r, l, e, k⟩ := h
 simp only [sIfs_nil, sIfs_cons] at e
 obtain ⟨c, m1, e1, e⟩ := R.bind_ok e
 refine ⟨β, ρ, m, c, m1, r, l, e1, fun β1 H1 x1 r1 => ?_⟩
 cases c with
 | true => simp only [if_true] at e; cases e; exact k _ _ x1 r1
 | false => simp only [Bool.false_eq_true, if_false] at e; cases e; exact k _ _ x1 r1
end
end D
end
section
set_option Elab.async false
set_option linter.all false
set_option maxRecDepth 100000
set_option autoImplicit false
namespace D
open PySem PySem.Spec PyProof.Rows L2
section
variable {prog : Program} {w : World} {A : Around} {E : Value → Shared → Prop} {s : Shared}
end
end D
end
section
set_option Elab.async false
set_option linter.all false
set_option maxRecDepth 100000
set_option autoImplicit false
namespace D
open PySem PySem.Spec PyProof.Rows L2
section
variable {X : L2.Cx} {pins : List (Addr × Obj)} {σ : L2.St} {H : Hp} {s : Shared} {h' : Heap}
end
end D
end
section
set_option Elab.async false
set_option linter.all false
set_option maxRecDepth 100000
set_option autoImplicit false
namespace D
open PySem PySem.Spec PyProof.Rows L2
section
variable {prog : Program} {w : World} {A : Around} {E : Value → Shared → Prop} {s : Shared}
end
section
variable {prog : Program} {w : World} {A : Around} {E : Value → Shared → Prop} {s : Shared}
end
section
variable {X : L2.Cx}
end
end D
end
section
set_option Elab.async false
set_option linter.all false
set_option maxRecDepth 100000
set_option autoImplicit false
namespace D
open PySem PySem.Spec PyProof.Rows L2
section
variable {X : L2.Cx} {cl : Cl} {C : D.Cx} {pos : Pos}
end
end D
end
section
set_option Elab.async false
set_option linter.all false
set_option maxRecDepth 100000
set_option autoImplicit false
namespace D
open PySem PySem.Spec PyProof.Rows L2
noncomputable def froz (γ : List Addr) (h : Heap) (H : Hp) : Hp := fun b => if b ∈ γ then match H b, h.get? b with
  | some (.lst vs), some o => some (.frz o (.lst vs))
  | some (.ins c dx fs), some o => some (.frz o (.ins c dx fs))
  | u, _ => u else H b
section
variable {γ : List Addr} {h : Heap} {H : Hp} {b : Addr}
theorem froz_cases : froz γ h H b = H b ∨ ∃ o u, b ∈ γ ∧ H b = some u ∧ h.get? b = some o ∧ froz γ h H b = some (.frz o u) ∧ ((∃ vs, u = .lst vs) ∨ ∃ c dx fs, u = .ins c dx fs) := by
 unfold froz
 by_cases hb : b ∈ γ
 ·simp only [if_pos hb]
  split
  ·rename_i vs o h1 h2
   exact .inr ⟨o, _, hb, h1, h2, rfl, .inl ⟨vs, rfl⟩⟩
  ·rename_i c dx fs o h1 h2
   exact .inr ⟨o, _, hb, h1, h2, rfl, .inr ⟨c, dx, fs, rfl⟩⟩
  ·exact .inl rfl
 ·exact .inl (if_neg hb)
theorem froz_none (e : H b = none) : froz γ h H b = none := by
 rcases froz_cases (γ := γ) (h := h) (H := H) (b := b) with z | ⟨o, u, _, z, _⟩
 ·rw [z, e]
 ·rw [e] at z; cases z
theorem froz_keep {u : HO} (e : H b = some u) (h1 : ∀ vs, u ≠ .lst vs) (h2 : ∀ c dx fs, u ≠ .ins c dx fs) : froz γ h H b = some u := by
 rcases froz_cases (γ := γ) (h := h) (H := H) (b := b) with z | ⟨o, u', _, z, _, _, ⟨vs, rfl⟩ | ⟨c, dx, fs, rfl⟩⟩
 ·rw [z, e]
 ·rw [e] at z; cases z; exact absurd rfl (h1 _)
 ·rw [e] at z; cases z; exact absurd rfl (h2 _ _ _)
theorem froz_out (e : b ∉ γ) : froz γ h H b = H b := by unfold froz; rw [if_neg e]
theorem froz_lst {vs : List V} {o : Obj} (e : b ∈ γ) (e1 : H b = some (.lst vs)) (e2 : h.get? b = some o) : froz γ h H b = some (.frz o (.lst vs)) := by unfold froz; rw [if_pos e, e1, e2]
theorem froz_ins {c dx : Addr} {fs : List (Str × V)} {o : Obj} (e : b ∈ γ) (e1 : H b = some (.ins c dx fs)) (e2 : h.get? b = some o) : froz γ h H b = some (.frz o (.ins c dx fs)) := by unfold froz; rw [if_pos e, e1, e2]
theorem frozH {P : Program} {w : World} (x : HOk P w H h) : HOk P w (froz γ h H) h := fun a u e => by
 have go : ∀ v, H a = some v → ObjOk P w (D.froz γ h H) h a v := fun v hv => (x a v hv).stay (fun _ _ _ q => q) (fun c q => froz_keep q (by intro _ z; cases z) (by intro _ _ _ z; cases z)) fun c xs q => froz_keep q (by intro _ z; cases z) (by intro _ _ _ z; cases z)
 rcases froz_cases (γ := γ) (h := h) (H := H) (b := a) with z | ⟨o, v, _, z, z2, z3, _⟩
 ·exact go u (by rw [← z]; exact e)
 ·rw [z3] at e
  cases e
  exact ⟨z2, go v z⟩
end
theorem frozI {X : L2.Cx} {pins : List (Addr × Obj)} {σ : L2.St} {H : Hp} {s : Shared} (I : Inv X pins σ H s) (γ : List Addr) : Inv X pins σ (froz γ s.heap H) s where
 ok := I.ok
 os := I.os
 bare := I.bare
 base := {
  keep := I.base.keep
  slot := I.base.slot
  free := fun b o q n hx => froz_none (I.base.free b o q n hx)
  there := I.base.there
  tups := fun b xs q => froz_keep (I.base.tups b xs q) (by intro _ z; cases z) (by intro _ _ _ z; cases z)
  frzs := fun b o u q => froz_keep (I.base.frzs b o u q) (by intro _ z; cases z) (by intro _ _ _ z; cases z)
  tbls := fun b ps q => let ⟨more, e⟩ := I.base.tbls b ps q; ⟨more, froz_keep e (by intro _ z; cases z) (by intro _ _ _ z; cases z)⟩ }
 loc := I.loc
 cell := I.cell
 free := froz_none I.free
 freeC := fun x c e => froz_none (I.freeC x c e)
 pin := fun p hp => let ⟨a, b, c⟩ := I.pin p hp; ⟨a, froz_none b, c⟩
 hok := frozH I.hok
 len := I.len
section
variable {K : PySem.W.Frag} {cl : Cl} {β γ : List Addr} {H : Hp} {h : Heap} {m : Mem}
theorem frozT {a : Addr} {vs : List V} (q : SqT K H a vs) : SqT K (froz γ h H) a vs := by
 rcases q with (q | ⟨o, q⟩) | q
 ·exact .inl (.inl (froz_keep q (by intro _ z; cases z) (by intro _ _ _ z; cases z)))
 ·exact .inl (.inr ⟨o, froz_keep q (by intro _ z; cases z) (by intro _ _ _ z; cases z)⟩)
 ·exact .inr q
theorem frozF {a : Addr} {vs : List V} (q : SqF K H a vs) : SqF K (froz γ h H) a vs := by
 rcases q with ⟨o, q⟩ | q
 ·exact .inl ⟨o, froz_keep q (by intro _ z; cases z) (by intro _ _ _ z; cases z)⟩
 ·exact .inr q
theorem RW.bel {w : W} {v : V} (q : RW K (β ++ γ) H w v) : belW β.length w = true → RW K β (froz γ h H) w v :=
 RW.rec (motive_1 := fun w v _ => belW β.length w = true → RW K β (froz γ h H) w v) (motive_2 := fun w v _ => belWs β.length w = true → RWs K β (froz γ h H) w v) (fun _ => .non) (fun b _ => .bl b) (fun b _ => .int b) (fun b _ => .str b) (fun h _ i e => .tup (frozT h) (i e)) (fun h _ i e => .fz (frozF h) (i e)) (fun h z _ i e => .obj (froz_keep h (by intro _ z; cases z) (by intro _ _ _ z; cases z)) z (i e)) (fun q e => .ref (by rw [List.getElem?_append_left (of_decide_eq_true e)] at q; exact q)) (fun _ => .nil) (fun _ _ a b e => .cons (a (Bool.and_eq_true_iff.mp e).1) (b (Bool.and_eq_true_iff.mp e).2)) q
theorem RWs.bel {w : List W} {v : List V} (q : RWs K (β ++ γ) H w v) (e : belWs β.length w = true) : RWs K β (froz γ h H) w v := by
 induction w generalizing v with
 | nil => cases q; exact .nil
 | cons x w ih => cases q with | cons a b => exact .cons (a.bel (Bool.and_eq_true_iff.mp e).1) (ih b (Bool.and_eq_true_iff.mp e).2)
theorem RFs.snd : ∀ {fs : List (Str × W)} {gs : List (Str × V)}, RFs K β H fs gs → RWs K β H (fs.map (·.2)) (gs.map (·.2)) ∧ fs.map (·.1) = gs.map (·.1)
 | _, _, .nil => ⟨.nil, rfl⟩
 | _, _, .cons q t => ⟨.cons q t.snd.1, by rw [List.map_cons, List.map_cons, t.snd.2]⟩
theorem RFs.of : ∀ {fs : List (Str × W)} {gs : List (Str × V)}, fs.map (·.1) = gs.map (·.1) → RWs K β H (fs.map (·.2)) (gs.map (·.2)) → RFs K β H fs gs
 | [], [], _, _ => .nil
 | (f, w) :: fs, (g, v) :: gs, e, t => by
  simp only [List.map_cons, List.cons.injEq] at e
  obtain ⟨rfl, e⟩ := e
  cases t with
  | cons q t => exact .cons q (RFs.of e t)
 | [], _ :: _, e, _ => by simp at e
 | _ :: _, [], e, _ => by simp at e
mutual
theorem RW.frW {g : Nat → Option W} (hg : ∀ {n w v}, g n = some w → RW K (β ++ γ) H (.ref n) v → RW K β (froz γ h H) w v) : ∀ {w : W} {v : V} {w1 : W}, RW K (β ++ γ) H w v → D.frW g w = some w1 → RW K β (froz γ h H) w1 v
 | _, _, _, .non, e => by simp only [D.frW] at e; cases e; exact .non
 | _, _, _, .bl b, e => by simp only [D.frW] at e; cases e; exact .bl b
 | _, _, _, .int i, e => by simp only [D.frW] at e; cases e; exact .int i
 | _, _, _, .str s, e => by simp only [D.frW] at e; cases e; exact .str s
 | _, _, _, .tup q t, e => by
  simp only [D.frW, Option.map_eq_some_iff] at e
  obtain ⟨ys, e1, rfl⟩ := e
  exact .tup (frozT q) (RWs.frWs hg t e1)
 | _, _, _, .fz q t, e => by
  simp only [D.frW, Option.map_eq_some_iff] at e
  obtain ⟨ys, e1, rfl⟩ := e
  exact .fz (frozF q) (RWs.frWs hg t e1)
 | _, _, _, .obj q z t, e => by
  simp only [D.frW, Option.map_eq_some_iff] at e
  obtain ⟨ys, e1, rfl⟩ := e
  exact .obj (froz_keep q (by intro _ z; cases z) (by intro _ _ _ z; cases z)) z (RWs.frWs hg t e1)
 | _, _, _, .ref q, e => hg (by simpa only [D.frW] using e) (.ref q)
theorem RWs.frWs {g : Nat → Option W} (hg : ∀ {n w v}, g n = some w → RW K (β ++ γ) H (.ref n) v → RW K β (froz γ h H) w v) : ∀ {w : List W} {v : List V} {w1 : List W}, RWs K (β ++ γ) H w v → D.frWs g w = some w1 → RWs K β (froz γ h H) w1 v
 | _, _, _, .nil, e => by simp only [D.frWs] at e; cases e; exact .nil
 | _, _, _, .cons q t, e => by
  simp only [D.frWs] at e
  split at e
  ·cases e
  ·rename_i y e1
   split at e
   ·cases e
   ·rename_i ys e2
    cases e
    exact .cons (RW.frW hg q e1) (RWs.frWs hg t e2)
end
theorem frG_ok (hh : ∀ a u, H a = some u → ((∃ vs, u = .lst vs) ∨ ∃ c dx fs, u = .ins c dx fs) → ∃ o, h.get? a = some o) (r : Rel K cl (β ++ γ) m H) : ∀ (d : Nat) {n : Nat} {w : W} {v : V}, frG m β.length d n = some w → RW K (β ++ γ) H (.ref n) v → RW K β (froz γ h H) w v
 | 0, n, w, v, e, q => by
  simp only [frG] at e
  split at e
  ·rename_i hn
   cases e
   exact q.bel (by simpa only [belW, decide_eq_true_eq] using hn)
  ·cases e
 | d + 1, n, w, v, e, q => by
  simp only [frG] at e
  split at e
  ·rename_i hn
   cases e
   exact q.bel (by simpa only [belW, decide_eq_true_eq] using hn)
  ·rename_i hn
   cases q with
   | ref hb =>
    rename_i a
    have ha : a ∈ γ := by
     rw [List.getElem?_append_right (by omega)] at hb
     exact List.mem_of_getElem? hb
    split at e
    ·rename_i xs e1
     simp only [Option.map_eq_some_iff] at e
     obtain ⟨ys, e2, rfl⟩ := e
     obtain ⟨vs, z, t⟩ := r.obj e1 hb
     obtain ⟨o, ho⟩ := hh a _ z (.inl ⟨_, rfl⟩)
     exact .fz (.inl ⟨o, froz_lst ha z ho⟩) (t.frWs (fun e q => frG_ok hh r d e q) e2)
    ·rename_i c fs e1
     simp only [Option.map_eq_some_iff] at e
     obtain ⟨ys, e2, rfl⟩ := e
     obtain ⟨dx, fs', z, t⟩ := r.obj e1 hb
     obtain ⟨o, ho⟩ := hh a _ z (.inr ⟨_, _, _, rfl⟩)
     exact .obj (froz_ins ha z ho) t.snd.2 (t.snd.1.frWs (fun e q => frG_ok hh r d e q) e2)
    ·cases e
end
theorem s_frz {X : L2.Cx} {cl : Cl} {C : D.Cx} {ex : Expr} {d : E} (hp : PE X ex (SE X cl (evE C d))) : PE X ex (SE X cl (evE C (.frz d))) := by
 rintro pins s σ H Q I ⟨β, ρ, m, w, m', r, l, e, k⟩
 simp only [sE_var, sE_cst, sE_bin, sE_neg, sE_not, sE_and, sE_or, sE_cmp, sE_chain, sE_ife, sE_tup, sE_lst, sE_idx, sE_slc, sE_call, sE_blt, sE_isI, sE_meth, sE_comp, sE_lrng, sE_frz, sE_fld, sE_make, sE_mth, sE_set0, sE_sset] at e
 cases h0 : evE C d ρ m with
 | no => rw [h0] at e; cases e
 | ok w0 m0 =>
  rw [h0] at e
  simp only [frzR] at e
  split at e
  ·rename_i hc
   split at e
   ·rename_i w1 e1
    cases e
    refine thn (hp pins s σ H (fun v H1 => ∃ β1, Ext β H β1 H1 ∧ Rel X.K cl β1 m0 H1 ∧ RW X.K β1 H1 w0 v) I ⟨β, ρ, m, w0, m0, r, l, h0, fun β1 H1 v1 x1 r1 q1 => ⟨β1, x1, r1, q1⟩⟩) fun u s1 hZ_ => ?_
    obtain ⟨v, H1, I1, rv, β1, x1, r1, q1⟩ := hZ_
    obtain ⟨γ, rfl, hγ⟩ := x1.pre
    have hl := r.len
    have hh : ∀ a u, H1 a = some u → ((∃ vs, u = .lst vs) ∨ ∃ c dx fs, u = .ins c dx fs) → ∃ o, s1.heap.get? a = some o := fun a u q hu => by
     rcases hu with ⟨vs, rfl⟩ | ⟨c, dx, fs, rfl⟩
     ·obtain ⟨_, _, _, _, e⟩ := I1.hok a _ q
      exact ⟨_, e⟩
     ·obtain ⟨_, _, _, e, _⟩ := I1.hok a _ q
      exact ⟨_, e⟩
    refine ⟨v, froz γ s1.heap H1, frozI I1 γ, rv, k β _ v ⟨⟨[], by simp, by simp⟩, fun {a o} q hn _ => ?_⟩ ⟨?_, ?_, fun {n o a} h1 h2 => ?_⟩ ?_⟩
    ·rw [froz_out fun z => by rw [hγ a z] at q; cases q]
     exact x1.keep q hn (by simp)
    ·rw [List.length_take, hl]; omega
    ·exact (List.nodup_append.mp r1.nd).1
    ·have hn : n < m.length := by
      have := (List.getElem?_eq_some_iff.mp h1).1
      rw [List.length_take] at this; omega
     rw [List.getElem?_take_of_lt hn] at h1
     have hb : (β ++ γ)[n]? = some a := by rw [List.getElem?_append_left (by omega)]; exact h2
     have hbel : belO β.length o = true := by
      rw [hl]
      exact List.all_eq_true.mp hc.2 o (List.mem_of_getElem? (by rw [List.getElem?_take_of_lt hn]; exact h1))
     have ha : a ∉ γ := fun z => by
      have := (List.nodup_append.mp r1.nd).2.2 a (List.mem_of_getElem? h2) a z
      exact this rfl
     have q := r1.obj h1 hb
     cases o with
     | lst ws => obtain ⟨vs, e, t⟩ := q; exact ⟨vs, (froz_out ha).trans e, t.bel (by simpa only [belO] using hbel)⟩
     | ins c fs =>
      obtain ⟨dx, fs', e, t⟩ := q
      exact ⟨dx, fs', (froz_out ha).trans e, .of t.snd.2 (t.snd.1.bel (by simpa only [belO] using hbel))⟩
     | set ks => obtain ⟨S, e, t⟩ := q; exact ⟨S, (froz_out ha).trans e, t⟩
    ·rw [← hl] at e1
     exact q1.frW (fun e q => frG_ok hh r1 8 e q) e1
   ·cases e
  ·cases e
theorem RW.isbel {K : PySem.W.Frag} {β : List Addr} {H : Hp} {w : W} {v : V} (q : RW K β H w v) : belW β.length w = true :=
 RW.rec (motive_1 := fun w v _ => belW β.length w = true) (motive_2 := fun w v _ => belWs β.length w = true) rfl (fun _ => rfl) (fun _ => rfl) (fun _ => rfl) (fun _ _ i => i) (fun _ _ i => i) (fun _ _ _ i => i) (fun q => decide_eq_true (List.getElem?_eq_some_iff.mp q).1) rfl (fun _ _ a b => Bool.and_eq_true_iff.mpr ⟨a, b⟩) q
theorem Rel.frozen {X : L2.Cx} {cl : Cl} {pins : List (Addr × Obj)} {σ : L2.St} {s1 : Shared} {β γ : List Addr} {H H1 : Hp} {m m0 : Mem} (r : Rel X.K cl β m H) (x1 : Ext β H (β ++ γ) H1) (hγ : ∀ a ∈ γ, H a = none) (r1 : Rel X.K cl (β ++ γ) m0 H1) (hc : m.length ≤ m0.length ∧ belM m.length (m0.take m.length) = true) (I1 : Inv X pins σ H1 s1) :
  Ext β H β (froz γ s1.heap H1) ∧ Rel X.K cl β (m0.take m.length) (froz γ s1.heap H1) ∧ (∀ a u, H1 a = some u → ((∃ vs, u = .lst vs) ∨ ∃ c dx fs, u = .ins c dx fs) → ∃ o, s1.heap.get? a = some o) := by
 have hl := r.len
 refine ⟨⟨⟨[], by simp, by simp⟩, fun {a o} q hn _ => ?_⟩, ⟨?_, ?_, fun {n o a} h1 h2 => ?_⟩, fun a u q hu => ?_⟩
 ·rw [froz_out fun z => by rw [hγ a z] at q; cases q]
  exact x1.keep q hn (by simp)
 ·rw [List.length_take, hl]; omega
 ·exact (List.nodup_append.mp r1.nd).1
 ·have hn : n < m.length := by
   have := (List.getElem?_eq_some_iff.mp h1).1
   rw [List.length_take] at this; omega
  rw [List.getElem?_take_of_lt hn] at h1
  have hb : (β ++ γ)[n]? = some a := by rw [List.getElem?_append_left (by omega)]; exact h2
  have hbel : belO β.length o = true := by
   rw [hl]
   exact List.all_eq_true.mp hc.2 o (List.mem_of_getElem? (by rw [List.getElem?_take_of_lt hn]; exact h1))
  have ha : a ∉ γ := fun z => by
   have := (List.nodup_append.mp r1.nd).2.2 a (List.mem_of_getElem? h2) a z
   exact this rfl
  have q := r1.obj h1 hb
  cases o with
  | lst ws => obtain ⟨vs, e, t⟩ := q; exact ⟨vs, (froz_out ha).trans e, t.bel (by simpa only [belO] using hbel)⟩
  | ins c fs =>
   obtain ⟨dx, fs', e, t⟩ := q
   exact ⟨dx, fs', (froz_out ha).trans e, .of t.snd.2 (t.snd.1.bel (by simpa only [belO] using hbel))⟩
  | set ks => obtain ⟨S, e, t⟩ := q; exact ⟨S, (froz_out ha).trans e, t⟩
 ·rcases hu with ⟨vs, rfl⟩ | ⟨c, dx, fs, rfl⟩
  ·obtain ⟨_, _, _, _, e⟩ := I1.hok a _ q
   exact ⟨_, e⟩
  ·obtain ⟨_, _, _, e, _⟩ := I1.hok a _ q
   exact ⟨_, e⟩
theorem st_frz {X : L2.Cx} {cl : Cl} {C : D.Cx} {st : Stmt} {i : Nat} {d : E} (hp : PS X st (SS X cl (evS C (.asg (.pt (.var i)) d)))) : PS X st (SS X cl (evS C (.asg (.pt (.var i)) (.frz d)))) := by
 rintro pins s σ H D I ⟨β, ρ, m, f, m', r, l, e, k⟩
 simp only [sS_asg, sS_expr, sS_ret, sS_retN, sS_ife, sS_for_, sS_pass, sS_brk, sS_cont, sS_never, sS_fas, sE_var, sE_cst, sE_bin, sE_neg, sE_not, sE_and, sE_or, sE_cmp, sE_chain, sE_ife, sE_tup, sE_lst, sE_idx, sE_slc, sE_call, sE_blt, sE_isI, sE_meth, sE_comp, sE_lrng, sE_frz, sE_fld, sE_make, sE_mth, sE_set0, sE_sset, sA_pt, sA_sub, sA_tup, bindT] at e
 obtain ⟨w1, m1, e1, e⟩ := R.bind_ok e
 simp only [R.bind] at e
 cases e
 cases h0 : evE C d ρ m with
 | no => rw [h0] at e1; cases e1
 | ok w0 m0 =>
  rw [h0] at e1
  simp only [frzR] at e1
  split at e1
  ·rename_i hc
   split at e1
   ·rename_i w1' e2
    cases e1
    refine thn (hp pins s σ H { nx := fun σ1 H1 => ∃ β1, Ext β H β1 H1 ∧ Rel X.K cl β1 m0 H1 ∧ RL X.K β1 H1 (ρ.set i (some w0)) σ1, rt := fun _ _ => False } I ⟨β, ρ, m, .nx (ρ.set i (some w0)), m0, r, l, by simp only [sS_asg, sS_expr, sS_ret, sS_retN, sS_ife, sS_for_, sS_pass, sS_brk, sS_cont, sS_never, sS_fas, h0, R.bind, sA_pt, sA_sub, sA_tup, bindT], fun β1 H1 x1 r1 σ1 l1 => ⟨β1, x1, r1, l1⟩⟩) fun fl s1 h => ?_
    cases fl with
    | next =>
     obtain ⟨σ1, H1, I1, β1, x1, r1, l1⟩ := h
     obtain ⟨γ, rfl, hγ⟩ := x1.pre
     obtain ⟨z1, z2, z3⟩ := r.frozen x1 hγ r1 hc I1
     refine ⟨σ1, froz γ s1.heap H1, frozI I1 γ, k β _ z1 z2 σ1 ⟨by rw [List.length_set, ← l1.len, List.length_set], fun {j w} hj => ?_⟩⟩
     by_cases hij : i = j
     ·subst hij
      have hlt : i < ρ.length := by
       have := (List.getElem?_eq_some_iff.mp hj).1
       simpa using this
      rw [List.getElem?_set_self hlt] at hj
      cases hj
      obtain ⟨v, hv, qv⟩ := l1.at_ (i := i) (w := w0) (by rw [List.getElem?_set_self hlt])
      rw [← r.len] at e2
      exact ⟨v, hv, qv.frW (fun e q => frG_ok z3 r1 8 e q) e2⟩
     ·rw [List.getElem?_set_ne hij] at hj
      obtain ⟨v, hv, qv⟩ := l1.at_ (i := j) (w := w) (by rw [List.getElem?_set_ne hij]; exact hj)
      obtain ⟨v', _, q'⟩ := l.at_ hj
      exact ⟨v, hv, qv.bel q'.isbel⟩
    | brk => obtain ⟨_, _, _, z⟩ := h; exact False.elim z
    | cont => obtain ⟨_, _, _, z⟩ := h; exact False.elim z
    | ret u => obtain ⟨_, _, _, _, _, z⟩ := h; exact False.elim z
   ·cases e1
  ·cases e1
end D
end
section
set_option Elab.async false
set_option linter.all false
set_option maxRecDepth 100000
set_option autoImplicit false
namespace D
open PySem PySem.Spec PyProof.Rows L2
theorem wpAny_Call_meth {prog : Program} {w : World} {A : Around} {E : Value → Shared → Prop} {s : Shared} {env : Env} {o : Expr} {name : Str} {apos pos : Pos} {args : List Expr} {Q : Value → Shared → Prop}
  (hbase : attributeBase o name env (eval o env) = eval o env)
  (hfew : ((backTo pos (starEach args env)).all (fun x => !x.1) && (backToKw pos (keywordEach [] env)).all (fun x => x.1.isSome)
   && decide (args.length + ([] : List Keyword).length + (if ([] : List Keyword).isEmpty then 0 else 1) < 30)) = true)
  (hline : (apos.endLine == pos.line) = true)
  (h : wpAny (model prog w) A (eval o env) (fun ov s₁ => ∀ pl, wpAny (model prog w) A (getMethod ov name pl) (fun fx s₂ => wpAny (model prog w) A (callWith pos fx.1 fx.2 (backTo pos (starEach args env)) []) Q E s₂) E s₁) E s) :
  wpAny (model prog w) A (eval (.Call (.Attribute o name apos) args [] pos) env) Q E s := by
 rw [arm_eval_Call, hbase]
 refine wpAny_bind (wpAny_mono h (fun ov s₁ h₁ => ?_) fun _ _ e => e)
 refine wpAny_bind (wpAny_standAt ?_)
 have hform : methodCallForm (args.length + ([] : List Keyword).length) (backTo pos (starEach args env)) (backToKw pos (keywordEach [] env)) = true := hfew
 have hpos : methodCallPos true o env apos pos = pure pos := by unfold methodCallPos; simp [hline]
 unfold methodCall
 rw [hform]
 refine wpAny_bind (wpAny_holding (wpAny_mono (h₁ _) (fun fx s2 h2 => ?_) fun _ _ e => e))
 exact wpAny_bind (wpAny_of_eq hpos h2)
section
variable {X : L2.Cx} {cl : Cl} {C : D.Cx} {pos : Pos}
theorem ins_rd {pins : List (Addr × Obj)} {σ : L2.St} {H : Hp} {s : Shared} {a Cc dx : Addr} {fs : List (Str × V)} (I : Inv X pins σ H s) (e : Rd H a (.ins Cc dx fs)) : ∃ mA, ObjM s.heap a dx Cc mA ∧ ∀ f, RelO (fs.lookup f) (mA f) := by
 obtain ⟨d, z, ne, ob, mA, n, r, q⟩ := (show ObjOk X.prog X.w H s.heap a (.ins Cc dx fs) from e.ok I.hok)
 exact ⟨mA, ⟨ob, n, ne⟩, r⟩
theorem RFs.lookup {K : PySem.W.Frag} {β : List Addr} {H : Hp} {f : Str} : ∀ {fs : List (Str × W)} {gs : List (Str × V)}, RFs K β H fs gs → (∀ {w}, fs.lookup f = some w → ∃ v, gs.lookup f = some v ∧ RW K β H w v) ∧ (fs.lookup f = none → gs.lookup f = none)
 | _, _, .nil => ⟨fun h => by simp at h, fun _ => rfl⟩
 | _, _, .cons (f := g) q t => by
  obtain ⟨h1, h2⟩ := t.lookup (f := f)
  cases hx : f == g with
  | true =>
   refine ⟨fun h => ?_, fun h => ?_⟩
   ·simp only [List.lookup_cons, hx] at h ⊢
    cases h
    exact ⟨_, rfl, q⟩
   ·simp only [List.lookup_cons, hx] at h; cases h
  | false =>
   refine ⟨fun h => ?_, fun h => ?_⟩
   ·simp only [List.lookup_cons, hx] at h ⊢
    exact h1 h
   ·simp only [List.lookup_cons, hx] at h ⊢
    exact h2 h
theorem zip_fs {K : PySem.W.Frag} {β : List Addr} {H : Hp} : ∀ {gs : List (Str × V)} {xs : List W}, RWs K β H xs (gs.map (·.2)) → RFs K β H ((gs.map (·.1)).zip xs) gs
 | [], _, t => by cases t; exact .nil
 | (g, v) :: gs, xs, t => by
  cases t with
  | cons q t => exact .cons q (zip_fs t)
theorem Rel.ins {K : PySem.W.Frag} {β : List Addr} {H : Hp} {m : Mem} {w : W} {v : V} {c : Str} {fs : List (Str × W)} (r : Rel K cl β m H) (q : RW K β H w v) (e : insOf m w = some (c, fs)) : ∃ a dx gs, v = .ref a ∧ Rd H a (.ins (clsOf K c) dx gs) ∧ RFs K β H fs gs := by
 cases q with
 | ref h =>
  simp only [insOf] at e
  split at e
  ·rename_i c' fs' e1
   cases e
   obtain ⟨dx, gs, z, t⟩ := r.obj e1 h
   exact ⟨_, dx, gs, rfl, .inl z, t⟩
  ·cases e
 | obj h e0 t =>
  simp only [insOf] at e
  cases e
  subst e0
  exact ⟨_, _, _, rfl, .inr ⟨_, h⟩, zip_fs t⟩
 | _ => simp only [insOf] at e; cases e
theorem s_fld {a : Expr} {d : E} {f : Str} (hc : ∀ {c f}, C.cs.flds.contains (c, f) = true → Cls X.K (clsOf X.K c) ∧ NoAttr X.K (clsOf X.K c) f) (ha : PE X a (SE X cl (evE C d))) (hb : attributeBase a f X.env (eval a X.env) = eval a X.env) : PE X (.Attribute a f pos) (SE X cl (evE C (.fld d f))) := by
 rintro pins s σ H Q I ⟨β, ρ, m, w, m', r, l, e, k⟩
 simp only [sE_var, sE_cst, sE_bin, sE_neg, sE_not, sE_and, sE_or, sE_cmp, sE_chain, sE_ife, sE_tup, sE_lst, sE_idx, sE_slc, sE_call, sE_blt, sE_isI, sE_meth, sE_comp, sE_lrng, sE_frz, sE_fld, sE_make, sE_mth, sE_set0, sE_sset] at e
 obtain ⟨x, m1, e1, e⟩ := R.bind_ok e
 unfold fldop at e
 split at e
 ·rename_i c fs e2
  split at e
  ·rename_i hcf
   split at e
   ·rename_i w' e3
    cases e
    refine attr_of hb (thn (ha pins s σ H (fun v H1 => ∃ β1, Ext β H β1 H1 ∧ Rel X.K cl β1 m' H1 ∧ RW X.K β1 H1 x v) I ⟨β, ρ, m, x, m', r, l, e1, fun β1 H1 v1 x1 r1 q1 => ⟨β1, x1, r1, q1⟩⟩) fun u s1 hZ_ => ?_)
    obtain ⟨v, H1, I1, rv, β1, x1, r1, q1⟩ := hZ_
    obtain ⟨a', dx, gs, rfl, hr, t⟩ := r1.ins q1 e2
    obtain rfl : u = Value.ref a' := rv
    obtain ⟨mA, O, ro⟩ := ins_rd I1 hr
    obtain ⟨z, ez, qz⟩ := t.lookup.1 e3
    obtain ⟨hcl, hna⟩ := hc hcf
    obtain ⟨u, hu, ru⟩ := RelO.some_of (v := z) (o := mA f) (by rw [← ez]; exact ro f)
    exact get_map I1.kIn O (hcl.get f) hcl.hd hna hu (handed_of ru) ⟨z, H1, I1.tok _, ru, k _ _ _ x1 r1 qz⟩
   ·cases e
  ·cases e
 ·cases e
theorem rfs_put {K : PySem.W.Frag} {β : List Addr} {H : Hp} {f : Str} {w : W} {v : V} (q : RW K β H w v) : ∀ {fs : List (Str × W)} {gs : List (Str × V)}, RFs K β H fs gs → RFs K β H (D.putF f w fs) (L2.putF f v gs)
 | _, _, .nil => .cons q .nil
 | _, _, .cons (f := g) (ws := ws) (vs := vs) q' t => by
  simp only [D.putF, L2.putF]
  split
  ·exact .cons q t
  ·exact .cons q' (rfs_put q t)
theorem RFs.length {K : PySem.W.Frag} {β : List Addr} {H : Hp} : ∀ {fs : List (Str × W)} {gs : List (Str × V)}, RFs K β H fs gs → fs.length = gs.length
 | _, _, .nil => rfl
 | _, _, .cons _ t => by rw [List.length_cons, List.length_cons, t.length]
theorem RFs.mono {K : PySem.W.Frag} {β β' : List Addr} {H H' : Hp} {m : Mem} (r : Rel K cl β m H) (x : Ext β H β' H') {fs : List (Str × W)} {gs : List (Str × V)} (t : RFs K β H fs gs) : RFs K β' H' fs gs := t.monoD r noD x
theorem Rel.setI {K : PySem.W.Frag} {β : List Addr} {H : Hp} {m : Mem} {a : Addr} (r : Rel K cl β m H) {n : Nat} {o : O} {c : Str} {dx : Addr} {fs : List (Str × W)} {gs : List (Str × V)} (hm : m[n]? = some o) (hb : β[n]? = some a) (q : RFs K β H fs gs) :
  Ext β H β (upd H a (.ins (clsOf K c) dx gs)) ∧ Rel K cl β (m.set n (.ins c fs)) (upd H a (.ins (clsOf K c) dx gs)) := by
 have ha : a ∈ β := List.mem_of_getElem? hb
 have x : Ext β H β (upd H a (.ins (clsOf K c) dx gs)) := ⟨⟨[], by simp, by simp⟩, fun {b u} h hn _ => by rw [upd_ne (show b ≠ a from fun z => hn (by rw [z]; exact ha))]; exact h⟩
 refine ⟨x, by simp [r.len], r.nd, fun {k o' b} h1 h2 => ?_⟩
 by_cases hk : n = k
 ·subst hk
  rw [hb] at h2; cases h2
  rw [List.getElem?_set_self (List.getElem?_eq_some_iff.mp hm).1] at h1
  cases h1
  exact ⟨dx, gs, upd_same, q.mono r x⟩
 ·rw [List.getElem?_set_ne hk] at h1
  have q' := r.obj h1 h2
  refine q'.mono r x (upd_ne ?_)
  rintro rfl
  obtain ⟨h3, e3⟩ := List.getElem?_eq_some_iff.mp h2
  obtain ⟨h4, e4⟩ := List.getElem?_eq_some_iff.mp hb
  exact hk ((List.getElem_inj r.nd).mp (e4.trans e3.symm))
theorem st_fas {o a : Expr} {do_ d : E} {f : Str} {pos' : Pos} (hc : ∀ {c f}, C.cs.flds.contains (c, f) = true → Cls X.K (clsOf X.K c) ∧ NoAttr X.K (clsOf X.K c) f) (ho : PE X o (SE X cl (evE C do_))) (ha : PE X a (SE X cl (evE C d)))
  (hs : swapsWith a (some (.Attribute o f pos')) pos.line X.env = pure false) : PS X (.Assign [.Attribute o f pos'] a pos) (SS X cl (evS C (.fas do_ f d))) := by
 refine PS.imp (ps_fld ho ha hs) ?_
 rintro D σ H ⟨β, ρ, m, ff, m', r, l, e, k⟩
 simp only [sS_asg, sS_expr, sS_ret, sS_retN, sS_ife, sS_for_, sS_pass, sS_brk, sS_cont, sS_never, sS_fas] at e
 obtain ⟨w, m1, e1, e⟩ := R.bind_ok e
 obtain ⟨x, m2, e2, e⟩ := R.bind_ok e
 obtain ⟨_, m3, e3, e⟩ := R.bind_ok e
 cases e
 refine ⟨β, ρ, m, w, m1, r, l, e1, fun β1 H1 v1 x1 r1 q1 => ?_⟩
 refine ⟨β1, ρ, m1, x, m2, r1, l.mono r x1, e2, fun β2 H2 v2 x2 r2 q2 => ?_⟩
 unfold fasop at e3
 split at e3
 ·rename_i n
  split at e3
  ·rename_i c fs e4
   split at e3
   ·rename_i hcf
    cases e3
    cases q2 with
    | ref hb =>
     obtain ⟨dx, gs, z, t⟩ := r2.obj e4 hb
     obtain ⟨hcl, hna⟩ := hc hcf.1
     obtain ⟨x3, r3⟩ := r2.setI (c := c) (dx := dx) e4 hb (rfs_put (f := f) (q1.mono r1 x2) t)
     exact ⟨_, _, dx, gs, rfl, z, hcl, hna, by rw [← t.length]; exact hcf.2, k _ _ ((x1.trans r1 x2).trans r2 x3) r3 _ (((l.mono r x1).mono r1 x2).mono r2 x3)⟩
   ·cases e3
  ·cases e3
 ·cases e3
noncomputable def MthOk (X : L2.Cx) (cl : Cl) (C : D.Cx) (c name : Str) (i : Nat) : Prop := ∃ (k : Nat) (fa : Addr) (fd : FuncData) (ps : List Str), Room k X.A ∧ Cls X.K (clsOf X.K c) ∧ Meth X.K (clsOf X.K c) name fa ∧ Binds X.K fd ps [] ∧
 FnOk X.prog X.w X.K X.mg X.base CX0 k fa fd ps (spD X.K cl ps.length (C.call i)) ∧ ∀ ws m w m', C.call i ws m = .ok w m' → ws.length = ps.length
theorem s_mth {o : Expr} {d : E} {name : Str} {apos : Pos} {es : List Expr} {ds : Es} (hM : ∀ {c name i}, C.cs.mths.lookup (c, name) = some i → MthOk X cl C c name i) (ho : PE X o (SE X cl (evE C d))) (ha : PA X es (SA X cl (evEs C ds)))
  (hbase : attributeBase o name X.env (eval o X.env) = eval o X.env)
  (hfew : ((backTo pos (starEach es X.env)).all (fun x => !x.1) && (backToKw pos (keywordEach [] X.env)).all (fun x => x.1.isSome)
   && decide (es.length + ([] : List Keyword).length + (if ([] : List Keyword).isEmpty then 0 else 1) < 30)) = true)
  (hline : (apos.endLine == pos.line) = true) (hs : (es = [] ∧ ds = .nil) ∨ ∃ a r, es = a :: r ∧ starEach (a :: r) X.env = (false, eval a X.env) :: starEach r X.env ∧ (backTo pos (starEach r X.env)).any (·.1) = false) :
  PE X (.Call (.Attribute o name apos) es [] pos) (SE X cl (evE C (.mth d name ds))) := by
 rintro pins s σ H Q I ⟨β, ρ, m, w, m', r, l, e, k⟩
 simp only [sE_var, sE_cst, sE_bin, sE_neg, sE_not, sE_and, sE_or, sE_cmp, sE_chain, sE_ife, sE_tup, sE_lst, sE_idx, sE_slc, sE_call, sE_blt, sE_isI, sE_meth, sE_comp, sE_lrng, sE_frz, sE_fld, sE_make, sE_mth, sE_set0, sE_sset] at e
 obtain ⟨x, m1, e1, e⟩ := R.bind_ok e
 split at e
 ·rename_i i e2
  obtain ⟨ws, m2, e3, e⟩ := R.bind_ok e
  refine wpAny_Call_meth hbase hfew hline (thn (ho pins s σ H (fun v H1 => ∃ β1, Ext β H β1 H1 ∧ Rel X.K cl β1 m1 H1 ∧ RW X.K β1 H1 x v) I ⟨β, ρ, m, x, m1, r, l, e1, fun β1 H1 v1 x1 r1 q1 => ⟨β1, x1, r1, q1⟩⟩) fun u s1 ⟨v, H1, I1, rv, β1, x1, r1, q1⟩ pl => ?_)
  unfold mthop at e2
  split at e2
  ·rename_i c fs e4
   split at e2
   ·rename_i hno
    obtain ⟨a', dx, gs, rfl, hr, t⟩ := r1.ins q1 e4
    obtain rfl : u = Value.ref a' := rv
    obtain ⟨mA, O, ro⟩ := ins_rd I1 hr
    have hn : mA name = none := RelO.none_of (by rw [← t.lookup.2 (by simpa using hno)]; exact ro name)
    obtain ⟨kk, fa, fd, ps, hroom, hcl, hmt, hbd, hF, hln⟩ := hM e2
    refine get_meth I1.kIn O (hcl.get name) hmt.at_ hmt.fn hn ?_
    have hsp : ∀ vs β2 H2, Ext β1 H1 β2 H2 → Rel X.K cl β2 m2 H2 → RWs X.K β2 H2 ws vs → spD X.K cl ps.length (C.call i) ((.ref a' :: vs) ++ []) H2 Q E0 := fun vs β2 H2 x2 r2 q2 => by
     rw [List.append_nil]
     have hq : RWs X.K β2 H2 (x :: ws) (.ref a' :: vs) := .cons (q1.mono r1 x2) q2
     exact ⟨by rw [← hq.length]; exact hln _ _ _ _ e, β2, m2, x :: ws, w, m', r2, hq, e, fun β3 H3 v3 x3 r3 q3 => k _ _ _ ((x1.trans r1 x2).trans r2 x3) r3 q3⟩
    rcases hs with ⟨rfl, rfl⟩ | ⟨a, rr, rfl, hst, hpl⟩
    ·simp only [sEs_nil, sEs_cons] at e3
     cases e3
     exact PySem.W.callWith_K0 (first := [.ref a']) I1.kIn hmt.kp (run_fn (us := [.ref a']) (vs := [.ref a']) hF hroom hbd .nil pass0 I1 (.cons rfl .nil) (hsp [] β1 H1 Ext.refl r1 .nil))
    ·refine PySem.W.callWith_K (first := [.ref a']) (h₀ := X.base) I.ok.mod.kin hmt.kp (thn (ha pos pins s1 σ H1 (fun vs H2 => ∃ β2, Ext β1 H1 β2 H2 ∧ Rel X.K cl β2 m2 H2 ∧ RWs X.K β2 H2 ws vs) I1 ⟨β1, ρ, m1, ws, m2, r1, l.mono r x1, e3, fun β2 H2 v2 x2 r2 q2 => ⟨β2, x2, r2, q2⟩⟩) fun us s2 ⟨vs, H2, I2, rr2, β2, x2, r2, q2⟩ => ⟨I2.kIn, ?_⟩) hst hpl
     exact run_fn (us := .ref a' :: us) (vs := .ref a' :: vs) hF hroom hbd .nil pass0 I2 (.cons rfl rr2) (hsp vs β2 H2 x2 r2 q2)
   ·cases e2
  ·cases e2
 ·cases e
noncomputable def IniOk (X : L2.Cx) (cl : Cl) (C : D.Cx) (c : Str) (i : Nat) : Prop := ∃ (k : Nat) (fa : Addr) (fd : FuncData) (ps : List Str), Room (k + 1) X.A ∧ Mk X.K (clsOf X.K c) fa ∧ X.mg c = some (.ref (clsOf X.K c)) ∧ Binds X.K fd ps [] ∧
 FnOk X.prog X.w X.K X.mg X.base CX0 k fa fd ps (spD X.K cl ps.length (C.call i)) ∧ ∀ ws m w m', C.call i ws m = .ok w m' → ws.length = ps.length
theorem s_make {c : Str} {p : Pos} {a : Expr} {es : List Expr} {ds : Es} {i : Nat} (hi : C.cs.ini.lookup c = some i) (hI : IniOk X cl C c i) (hg : Gl X c) (ha : PA X (a :: es) (SA X cl (evEs C ds)))
  (hdb : (c == ("__debug__" : Str)) = false) (he : starEach (a :: es) X.env = (false, eval a X.env) :: starEach es X.env) (hpl : (backTo pos (starEach es X.env)).any (·.1) = false) :
  PE X (.Call (.Name c p) (a :: es) [] pos) (SE X cl (evE C (.make c ds))) := by
 obtain ⟨k, fa, fd, ps, hroom, hmk, hmg, hbd, hF, hln⟩ := hI
 refine PE.imp (pe_make hmk hF hroom hg hmg hbd .nil pass0 ha hdb he hpl) ?_
 rintro σ H Q ⟨β, ρ, m, w, m', r, l, e, k⟩
 simp only [sE_var, sE_cst, sE_bin, sE_neg, sE_not, sE_and, sE_or, sE_cmp, sE_chain, sE_ife, sE_tup, sE_lst, sE_idx, sE_slc, sE_call, sE_blt, sE_isI, sE_meth, sE_comp, sE_lrng, sE_frz, sE_fld, sE_make, sE_mth, sE_set0, sE_sset] at e
 obtain ⟨ws, m1, e1, e⟩ := R.bind_ok e
 refine ⟨β, ρ, m, ws, m1, r, l, e1, fun β1 H1 v1 x1 r1 q1 x dx hx hdx hne => ?_⟩
 simp only [makeop, hi] at e
 obtain ⟨w2, m2, e2, e⟩ := R.bind_ok e
 split at e
 ·cases e
  obtain ⟨x2, r2⟩ := r1.newU hdx (.own x)
  have hx2 : upd H1 dx (.own x) x = none := by rw [upd_ne hne.symm]; exact hx
  obtain ⟨x3, r3⟩ := r2.newO (ho := .ins (clsOf X.K c) dx []) (o := .ins c []) hx2 fun _ => ⟨dx, [], upd_same, .nil⟩
  have hq : RWs X.K (β1 ++ [x]) _ (.ref m1.length :: ws) (.ref x :: v1) := .cons (.ref (r1.last x)) ((q1.mono r1 x2).mono r2 x3)
  refine ⟨?_, β1 ++ [x], m1 ++ [.ins c []], .ref m1.length :: ws, .non, m', r3, by rw [List.append_nil]; exact hq, e2, fun β4 H4 v4 x4 r4 q4 => ?_⟩
  ·rw [List.append_nil, ← hq.length]; exact hln _ _ _ _ e2
  ·cases q4
   refine ⟨rfl, k _ _ _ (((x1.trans r1 x2).trans r2 x3).trans r3 x4) r4 (.ref (x4.get (r1.last x)))⟩
 ·cases e
theorem s_call0 {k f : Nat} {fa : Addr} {fd : FuncData} {ps : List Str} {x : Str} {p : Pos} (F : FnOk X.prog X.w X.K X.mg X.base CX0 k fa fd ps (spD X.K cl ps.length (C.call f))) (hr : Room k X.A) (hg : Gl X x) (hm : X.mg x = some (.ref fa)) (hk : PySem.W.keepIn X.K (.ref fa) = true) (hb : Binds X.K fd ps [])
  (hl : ps.length = 0) (hdb : (x == ("__debug__" : Str)) = false) : PE X (.Call (.Name x p) [] [] pos) (SE X cl (evE C (.call f .nil))) := by
 refine PE.imp (pe_call0 F hr hg hm hk hb .nil pass0 hdb) ?_
 rintro σ H Q ⟨β, ρ, m, w, m', r, l, e, k⟩
 simp only [sE_var, sE_cst, sE_bin, sE_neg, sE_not, sE_and, sE_or, sE_cmp, sE_chain, sE_ife, sE_tup, sE_lst, sE_idx, sE_slc, sE_call, sE_blt, sE_isI, sE_meth, sE_comp, sE_lrng, sE_frz, sE_fld, sE_make, sE_mth, sE_set0, sE_sset, sEs_nil, sEs_cons, R.bind] at e
 exact ⟨by rw [hl]; rfl, β, m, [], w, m', r, .nil, e, fun β2 H2 v2 x2 r2 q2 => k _ _ _ x2 r2 q2⟩
end
end D
end
section
set_option Elab.async false
set_option linter.all false
set_option maxRecDepth 100000
set_option autoImplicit false
namespace D
open PySem PySem.Spec PyProof.Rows L2
set_option genInjectivity false in
structure Ci where
 N : List Str
 names : List (Str × NameKind)
 fns : List (Str × (Nat × Nat))
 gl : List (Str × W)
 cs : Cs
 fz : List Pos
noncomputable def ixOf (x : Str) : List Str → Option Nat
 | [] => none
 | y :: r => if y = x then some 0 else (ixOf x r).map (· + 1)
theorem ixOf_get {x : Str} : ∀ {N : List Str} {i : Nat}, ixOf x N = some i → N[i]? = some x
 | [], _, h => by cases h
 | y :: r, i, h => by
  unfold ixOf at h
  split at h
  ·rename_i e; cases h; simp [e]
  ·simp only [Option.map_eq_some_iff] at h
   obtain ⟨j, h1, rfl⟩ := h
   simpa using ixOf_get h1
noncomputable def bltTab : List (Str × B) := [("len", .len), ("abs", .abs), ("max", .max), ("min", .min), ("divmod", .divmod), ("all", .all), ("any", .any), ("list", .list), ("tuple", .tuple), ("int", .int), ("sorted", .sorted)]
noncomputable def tyTab : List (Str × String) := [("int", "int"), ("bool", "bool"), ("str", "str"), ("list", "list"), ("tuple", "tuple"), ("dict", "dict")]
noncomputable def bnames : List Str := ["len", "abs", "max", "min", "divmod", "all", "any", "list", "tuple", "int", "bool", "str", "dict", "isinstance", "range", "enumerate", "zip", "sorted", "set"]
noncomputable def mtTab : List (Str × (String × String)) := [("append", ("append", "list.append")), ("clear", ("clear", "list.clear")), ("reverse", ("reverse", "list.reverse")),
 ("join", ("join", "str.join")), ("index", ("index", "str.index")), ("add", ("add", "set.add"))]
noncomputable def noStar : Expr → Bool
 | .Starred .. => false
 | _ => true
noncomputable def isSlice : Expr → Bool
 | .Slice .. => true
 | _ => false
noncomputable def isSet : Expr → Bool
 | .Set .. => true
 | _ => false
noncomputable def isComp : Expr → Bool
 | .ListComp .. => true
 | .SetComp .. => true
 | .DictComp .. => true
 | _ => false
noncomputable def isCall0 : Expr → Bool
 | .Call (.Name _ _) [] [] _ => true
 | _ => false
noncomputable def isAlloc : Expr → Bool
 | .Call .. => true
 | .ListComp .. => true
 | .List .. => true
 | .BinOp .. => true
 | .Subscript .. => true
 | _ => false
noncomputable def wz (c : Ci) (e : Expr) (d : E) : E := if isAlloc e && c.fz.contains e.pos then .frz d else d
noncomputable def isNameE : Expr → Bool
 | .Name .. => true
 | _ => false
noncomputable def isTupE : Expr → Bool
 | .Tuple .. => true
 | .List .. => true
 | _ => false
noncomputable def isIt : E → Bool
 | .rng _ => true
 | .rng2 _ _ => true
 | .enm _ => true
 | .zip _ => true
 | _ => false
noncomputable def special (x : Str) : Bool := x == "__debug__" || x == "__classdict__" || x == "__name__"
noncomputable def cEs (f : Expr → Option E) : List Expr → Option Es
 | [] => some .nil
 | e :: es => if noStar e then match f e with
  | none => none
  | some d => match cEs f es with
   | none => none
   | some ds => some (.cons d ds) else none
noncomputable def cBs (f : Expr → Option E) (op : BoolOp) : List Expr → Option E
 | [] => none
 | [e] => f e
 | e :: r => match f e with
  | none => none
  | some d => match cBs f op r with
   | none => none
   | some ds => match op with
    | .And => some (.and d ds)
    | .Or => some (.or d ds)
noncomputable def cO (f : Expr → Option E) : Option Expr → Option Oe
 | none => some .none
 | some e => (f e).map .some
noncomputable def cName (c : Ci) (x : Str) : Option E := if special x then none else match c.names.lookup x with
 | some .local => (ixOf x c.N).map .var
 | some .cell => (ixOf x c.N).map .var
 | some .free => (ixOf x c.N).map .var
 | some .globalImplicit => (c.gl.lookup x).map .cst
 | _ => none
noncomputable def tslot (c : Ci) (x : Str) : Option Nat := match c.names.lookup x with
 | some .local => ixOf x c.N
 | some .cell => ixOf x c.N
 | _ => none
noncomputable def cTs (f : Expr → Option T) : List Expr → Option Ts
 | [] => some .nil
 | e :: es => if noStar e then match f e with
  | none => none
  | some d => match cTs f es with
   | none => none
   | some ds => some (.cons d ds) else none
noncomputable def cT : Nat → Ci → Expr → Option T
 | 0, _, _ => none
 | n + 1, c, e => match e with
  | .Name x _ => (tslot c x).map .var
  | .Tuple es _ _ => (cTs (cT n c) es).map .tup
  | _ => none
noncomputable def cI (f : Expr → Option E) (c : Ci) (tg e : Expr) : Option E := match e with
 | .Call (.Name x _) args kws _ => if kws.isEmpty && c.names.lookup x == some .globalImplicit && (c.fns.lookup x).isNone && !special x then
   if x = "range" then match args with
    | [a] => if noStar a then (f a).map .rng else none
    | _ => none
   else if x = "enumerate" then match tg, args with
    | .Tuple _ _ _, [a] => if noStar a then (f a).map .enm else none
    | _, _ => none
   else match f e with
    | some d => if isIt d then none else some d
    | none => none
  else match f e with
   | some d => if isIt d then none else some d
   | none => none
 | e => match f e with
  | some d => if isIt d then none else some d
  | none => none
noncomputable def cIfs (f : Expr → Option E) : List Expr → Option Es
 | [] => some .nil
 | [e] => (f e).map fun d => .cons d .nil
 | _ => none
noncomputable def cGs (f : Expr → Option E) (n : Nat) (c : Ci) (elt : Expr) : List Comprehension → Option G
 | [] => (f elt).map .elt
 | ⟨tg, it, ifs, as⟩ :: gs => if as = 0 ∧ isSet it = false then match cT n c tg, cI f c tg it, cIfs f ifs, cGs f n c elt gs with
  | some t, some d, some ds, some g => some (.gen t [] d ds g)
  | _, _, _, _ => none else none
noncomputable def ownJs (N : List Str) (names : List (Str × NameKind)) : List Nat := (N.zipIdx.filter fun p => names.lookup p.1 == some .local).map (·.2)
noncomputable def compOk (N : List Str) (scope : Scope) (onames : List (Str × NameKind)) : Bool :=
 decide (scope.kind = .function) && scope.names.all fun y => decide (y.2 ≠ .cell) && (decide (y.2 ≠ .local) || decide (scope.names.lookup y.1 = some .local)) && (decide (y.2 ≠ .free) || decide (onames.lookup y.1 = some .cell) || decide (onames.lookup y.1 = some .free))
noncomputable def cE : Nat → Ci → Expr → Option E
 | 0, _, _ => none
 | n + 1, c, e => Option.map (wz c e) <| match e with
  | .Name x _ => cName c x
  | .Constant k _ _ => match k with
   | .int i => some (.cst (.int i))
   | .bool b => some (.cst (.bl b))
   | .none => some (.cst .non)
   | .str x => some (.cst (.str x))
   | _ => none
  | .BinOp a op b _ => match cE n c a, cE n c b with
   | some d, some d' => some (.bin op d d')
   | _, _ => none
  | .UnaryOp op a _ => match op with
   | .USub => (cE n c a).map .neg
   | .Not => (cE n c a).map .not
   | _ => none
  | .BoolOp op vs _ => cBs (cE n c) op vs
  | .Compare a ops bs _ => match ops, bs with
   | [op], [b] => if behindInMarks op b then none else match cE n c a, cE n c b with
    | some d, some d' => some (.cmp op d d')
    | _, _ => none
   | [o1, o2], [b, b'] => if lastMarks [o1, o2] [b, b'] then none else match cE n c a, cE n c b, cE n c b' with
    | some d, some d', some d'' => some (.chain o1 o2 d d' d'')
    | _, _, _ => none
   | _, _ => none
  | .IfExp t a b _ => match cE n c t, cE n c a, cE n c b with
   | some d, some d', some d'' => some (.ife d d' d'')
   | _, _, _ => none
  | .Tuple es _ _ => (cEs (cE n c) es).map .tup
  | .List es _ => (cEs (cE n c) es).map .lst
  | .Subscript a s _ => match s with
   | .Slice lo hi st _ => match st with
    | none => match cE n c a, cO (cE n c) lo, cO (cE n c) hi with
     | some d, some l, some h => some (.slc d l h)
     | _, _, _ => none
    | some _ => none
   | s => if isSlice s then none else match cE n c a, cE n c s with
    | some d, some d' => some (.idx d d')
    | _, _ => none
  | .Call f args kws pos => if kws.isEmpty then match f with
    | .Name x _ => if special x then none else if c.names.lookup x = some .globalImplicit then match c.fns.lookup x with
      | some (i, np) => match args with
       | [] => if np = 0 then some (.call i .nil) else none
       | a :: r => if args.length = np then (cEs (cE n c) (a :: r)).map (.call i) else none
      | none => match c.cs.ini.lookup x with
       | some _ => match args with
        | [] => none
        | a :: r => (cEs (cE n c) (a :: r)).map (.make x)
       | none => if x = "set" then match args with
        | [] => some .set0
        | _ => none
       else
       match bltTab.lookup x with
       | some b => match args with
        | [] => none
        | a :: r => (cEs (cE n c) (a :: r)).map (.blt b)
       | none => if x = "isinstance" then match args with
         | [a, .Name t _] => if special t then none else if noStar a && c.names.lookup t == some .globalImplicit then match tyTab.lookup t, cE n c a with
          | some tn, some d => some (.isI d tn)
          | _, _ => none else none
         | _ => none
        else none
     else none
    | .Attribute o m apos => if isCall0 o then none else if (apos.endLine == pos.line) then match mtTab.lookup m, cE n c o with
      | some (nm, _), some d => if args.length < 20 then (cEs (cE n c) args).map (.meth d nm) else none
      | none, some d => if args.length < 20 then (cEs (cE n c) args).map (.mth d m) else none
      | _, _ => none
     else none
    | _ => none
   else none
  | .Attribute o f _ => if isCall0 o then none else (cE n c o).map fun d => .fld d f
  | .ListComp elt gens scope _ => match gens with
   | [] => none
   | ⟨tg, it, ifs, as⟩ :: gs =>
    let c' : Ci := { c with names := scope.names }
    if as = 0 ∧ isSet it = false ∧ compOk c.N scope c.names = true then match cT n c' tg, cI (cE n c) c tg it, cIfs (cE n c') ifs, cGs (cE n c') n c' elt gs with
     | some t, some d, some ds, some g => some (.comp (.gen t (ownJs c.N scope.names) d ds g))
     | _, _, _, _ => none
    else none
  | _ => none
noncomputable def cAs (f : Expr → Option A) : List Expr → Option As
 | [] => some .nil
 | e :: es => if noStar e then match f e with
  | none => none
  | some d => match cAs f es with
   | none => none
   | some ds => some (.cons d ds) else none
noncomputable def cA : Nat → Ci → Expr → Option A
 | 0, _, _ => none
 | n + 1, c, e => match e with
  | .Name x _ => (tslot c x).map fun i => .pt (.var i)
  | .Tuple es _ _ => (cAs (cA n c) es).map .tup
  | .Subscript o i _ => if isSlice i then none else match cE n c o, cE n c i with
   | some d, some d' => some (.sub d d')
   | _, _ => none
  | _ => none
noncomputable def cSs (f : Stmt → Option S) : List Stmt → Option Ss
 | [] => some .nil
 | s :: r => match f s with
  | none => none
  | some d => match cSs f r with
   | none => none
   | some ds => some (.cons d ds)
noncomputable def cOth (n : Nat) (c : Ci) (tg v : Expr) : Option S := if (isTupE tg && isTupE v) || isNameE tg || !noStar tg then none else match cA n c tg, cE n c v with
 | some t, some d => some (.asg t d)
 | _, _ => none
noncomputable def cAsg (n : Nat) (c : Ci) (tg v : Expr) : Option S := match tg with
 | .Name x _ => match tslot c x, cE n c v with
  | some i, some d => some (.asg (.pt (.var i)) d)
  | _, _ => none
 | .Attribute o f _ => match cE n c o, cE n c v with
  | some d, some d' => some (.fas d f d')
  | _, _ => none
 | tg =>
  cOth n c tg v
noncomputable def cS : Nat → Ci → Stmt → Option S
 | 0, _, _ => none
 | n + 1, c, s => match s with
  | .Assign ts v _ => match ts with
   | [t] => cAsg n c t v
   | _ => none
  | .Expr v _ => if isComp v then none else (cE n c v).map .expr
  | .Return o _ => match o with
   | some v => (cE n c v).map .ret
   | none => some .retN
  | .If t a b _ => match cE n c t, cSs (cS n c) a, cSs (cS n c) b with
   | some d, some x, some y => some (.ife d x y)
   | _, _, _ => none
  | .For tg it body els _ => match els with
   | [] => if isSet it then none else match cT n c tg, cI (cE n c) c tg it, cSs (cS n c) body with
    | some t, some d, some x => some (.for_ t d x)
    | _, _, _ => none
   | _ => none
  | .Pass _ => some .pass
  | .Break _ => some .brk
  | .Continue _ => some .cont
  | .Raise _ _ _ => some .never
  | _ => none
end D
end
section
set_option Elab.async false
set_option linter.all false
set_option maxRecDepth 100000
set_option autoImplicit false
namespace D
open PySem PySem.Spec PyProof.Rows L2
structure Ok (X : L2.Cx) (cl : Cl) (C : D.Cx) (c : Ci) : Prop where
 N : X.N = c.N
 nd : c.N.Nodup
 vis : ∀ {x : Str} {k : NameKind}, c.names.lookup x = some k → (k = .local ∨ k = .cell ∨ k = .free) → Vis X.env.scope x
 loc : ∀ {x : Str} {k : NameKind}, c.names.lookup x = some k → (k = .local ∨ k = .cell) → L2.Loc X.env.scope x ∧ (X.fn x = true ∨ X.env.scope.names.lookup x = some .local)
 cel : ∀ {x : Str}, (c.names.lookup x = some .cell ∨ c.names.lookup x = some .free) → X.env.scope.names.lookup x = some .cell ∨ X.env.scope.names.lookup x = some .free
 glb : ∀ {x : Str}, c.names.lookup x = some .globalImplicit → Gl X x
 calm : X.calm = true
 units : UN X cl
 hand : X.A.handled = none
 blt : ∀ x ∈ bnames, X.mg x = none
 fn : ∀ {x : Str} {i np : Nat}, c.fns.lookup x = some (i, np) → ∃ (k : Nat) (fa : Addr) (fd : FuncData) (ps : List Str), ps.length = np ∧ Room k X.A ∧ X.mg x = some (.ref fa) ∧ PySem.W.keepIn X.K (.ref fa) = true ∧ Binds X.K fd ps [] ∧ FnOk X.prog X.w X.K X.mg X.base CX0 k fa fd ps (spD X.K cl ps.length (C.call i))
 gl : ∀ {x : Str} {w : W}, c.gl.lookup x = some w → ∃ u v, X.mg x = some u ∧ RelV v u ∧ ∀ β H, RW X.K β H w v
 cs : c.cs = C.cs
 fld : ∀ {d f : Str}, C.cs.flds.contains (d, f) = true → Cls X.K (clsOf X.K d) ∧ NoAttr X.K (clsOf X.K d) f
 mth : ∀ {d f : Str} {i : Nat}, C.cs.mths.lookup (d, f) = some i → MthOk X cl C d f i
 ini : ∀ {d : Str} {i : Nat}, C.cs.ini.lookup d = some i → IniOk X cl C d i
section
variable {env : Env}
theorem star_ok {e : Expr} {es : List Expr} (h : noStar e = true) : starEach (e :: es) env = (false, eval e env) :: starEach es env := by
 cases e <;> first | rfl | cases h
theorem cEs_star {f : Expr → Option E} {pos : Pos} : ∀ {es : List Expr} {ds : Es}, cEs f es = some ds → (backTo pos (starEach es env)).any (·.1) = false
 | [], _, _ => rfl
 | e :: es, ds, h => by
  unfold cEs at h
  split at h
  ·rename_i hs
   split at h
   ·cases h
   ·split at h
    ·cases h
    ·rename_i ds' h2
     rw [star_ok hs]
     show ((false || (backTo pos (starEach es env)).any (·.1))) = false
     rw [cEs_star h2]; rfl
  ·cases h
theorem cEs_all {f : Expr → Option E} {pos : Pos} : ∀ {es : List Expr} {ds : Es}, cEs f es = some ds → (backTo pos (starEach es env)).all (fun x => !x.1) = true
 | [], _, _ => rfl
 | e :: es, ds, h => by
  unfold cEs at h
  split at h
  ·rename_i hs
   split at h
   ·cases h
   ·split at h
    ·cases h
    ·rename_i ds' h2
     rw [star_ok hs]
     show ((true && (backTo pos (starEach es env)).all (fun x => !x.1))) = true
     rw [cEs_all h2]; rfl
  ·cases h
theorem cEs_hd {f : Expr → Option E} {e : Expr} {es : List Expr} {ds : Es} (h : cEs f (e :: es) = some ds) : noStar e = true ∧ ∃ d ds', f e = some d ∧ cEs f es = some ds' ∧ ds = .cons d ds' := by
 unfold cEs at h
 split at h
 ·rename_i hs
  split at h
  ·cases h
  ·rename_i d h1
   split at h
   ·cases h
   ·rename_i ds' h2
    cases h
    exact ⟨hs, d, ds', h1, h2, rfl⟩
 ·cases h
theorem asg_each {e : Expr} {es : List Expr} (h : noStar e = true) : assignEach (e :: es) env = (false, assign e env) :: assignEach es env := by
 cases e <;> first | rfl | cases h
theorem plainIx {b : Expr} (h : isSlice b = false) : PlainIx b := by
 intro o i
 cases b <;> first | rfl | cases h
theorem base_ok {o : Expr} {m : Str} (h : isCall0 o = false) : attributeBase o m env (eval o env) = eval o env := by
 unfold attributeBase
 split
 ·cases h
 ·rfl
theorem set_ok {e : Expr} (h : isSet e = false) (x : Value) : foldedSetIterable e env x = pure x := by
 cases e <;> first | rfl | cases h
theorem swap_no {v : Expr} {t : Option Expr} {l : Nat} (h : isComp v = false) : swapsWith v t l env = pure false := by
 cases v <;> first | rfl | cases h
noncomputable def Es.len : Es → Nat
 | .nil => 0
 | .cons _ r => r.len + 1
theorem cEs_len {f : Expr → Option E} : ∀ {es : List Expr} {ds : Es}, cEs f es = some ds → ds.len = es.length
 | [], _, h => by cases h; rfl
 | e :: es, ds, h => by
  obtain ⟨_, d, ds', _, h2, rfl⟩ := cEs_hd h
  show ds'.len + 1 = _
  rw [cEs_len h2]; rfl
theorem evEs_len {C : D.Cx} : ∀ {ds : Es} {ρ : Loc} {m m' : Mem} {ws : List W}, evEs C ds ρ m = .ok ws m' → ws.length = ds.len
 | .nil, _, _, _, _, h => by simp only [sEs_nil, sEs_cons] at h; cases h; rfl
 | .cons d ds, _, _, _, _, h => by
  simp only [sEs_nil, sEs_cons] at h
  obtain ⟨w, m1, h1, h⟩ := R.bind_ok h
  obtain ⟨ws, m2, h2, h⟩ := R.bind_ok h
  cases h
  rw [List.length_cons, evEs_len h2]; rfl
end
theorem lookup_mem {β : Type} {x : Str} {b : β} : ∀ {l : List (Str × β)}, l.lookup x = some b → (x, b) ∈ l := fun {l} h => PySem.mem_of_lookup h
theorem bltTab_ok {x : Str} {b : B} (h : bltTab.lookup x = some b) : x ∈ bnames ∧ ((∃ id, bval b = .builtin id ∧ bootBuiltins x = some (.builtin id)) ∨ ∃ id, bval b = .type id ∧ bootBuiltins x = some (.type id)) := by
 have hm := lookup_mem h
 simp only [bltTab, List.mem_cons, Prod.mk.injEq, List.not_mem_nil, or_false] at hm
 rcases hm with ⟨rfl, rfl⟩ | ⟨rfl, rfl⟩ | ⟨rfl, rfl⟩ | ⟨rfl, rfl⟩ | ⟨rfl, rfl⟩ | ⟨rfl, rfl⟩ | ⟨rfl, rfl⟩ | ⟨rfl, rfl⟩ | ⟨rfl, rfl⟩ | ⟨rfl, rfl⟩ | ⟨rfl, rfl⟩
 all_goals first
  | exact ⟨by decide +kernel, .inl ⟨_, rfl, by decide +kernel⟩⟩
  | exact ⟨by decide +kernel, .inr ⟨_, rfl, by decide +kernel⟩⟩
theorem tyTab_ok {x : Str} {b : String} (h : tyTab.lookup x = some b) : x ∈ bnames ∧ b ∈ tyNames ∧ bootBuiltins x = some (.type b) := by
 have hm := lookup_mem h
 simp only [tyTab, List.mem_cons, Prod.mk.injEq, List.not_mem_nil, or_false] at hm
 rcases hm with ⟨rfl, rfl⟩ | ⟨rfl, rfl⟩ | ⟨rfl, rfl⟩ | ⟨rfl, rfl⟩ | ⟨rfl, rfl⟩ | ⟨rfl, rfl⟩
 all_goals exact ⟨by decide +kernel, by decide, by decide +kernel⟩
theorem mtTab_ok {X : L2.Cx} {cl : Cl} (hu : UN X cl) {m : Str} {nm id : String} (h : mtTab.lookup m = some (nm, id)) : PlainAttrs (kdT (kdM nm)) ∧ Slot (kdT (kdM nm)) m id ∧ typeOf (.builtin id) = pure (.type "method_descriptor") ∧ MtR X id (SM X cl nm) := by
 have hm := lookup_mem h
 simp only [mtTab, List.mem_cons, Prod.mk.injEq, List.not_mem_nil, or_false] at hm
 rcases hm with ⟨rfl, rfl, rfl⟩ | ⟨rfl, rfl, rfl⟩ | ⟨rfl, rfl, rfl⟩
  | ⟨rfl, rfl, rfl⟩ | ⟨rfl, rfl, rfl⟩ | ⟨rfl, rfl, rfl⟩
 ·exact ⟨PySem.F.plainAttrs_list, PySem.F.slot_list_append, PySem.F.type_list_append, sm_append⟩
 ·exact ⟨PySem.F.plainAttrs_list, PySem.F.slot_list_clear, PySem.F.type_list_clear, sm_clear⟩
 ·exact ⟨PySem.F.plainAttrs_list, PySem.F.slot_list_reverse, PySem.F.type_list_reverse, sm_reverse⟩
 ·exact ⟨PySem.F.plainAttrs_str, PySem.F.slot_str_join, PySem.F.type_str_join, sm_join⟩
 ·exact ⟨PySem.F.plainAttrs_str, PySem.F.slot_str_index, PySem.F.type_str_index, sm_sindex⟩
 ·exact ⟨PySem.F.plainAttrs_set, PySem.F.slot_set_add, PySem.F.type_set_add, sm_add hu⟩
theorem special_ok {x : Str} (h : special x = false) : (x == ("__debug__" : Str)) = false ∧ (x == ("__classdict__" : Str)) = false ∧ x ≠ "__name__" := by
 unfold special at h
 simp only [Bool.or_eq_false_iff] at h
 exact ⟨h.1.1, h.1.2, by simpa using h.2⟩
section
variable {X : L2.Cx} {cl : Cl} {C : D.Cx} {c : Ci}
theorem Ok.slot (o : Ok X cl C c) {x : Str} {i : Nat} (h : ixOf x c.N = some i) : X.N[i]? = some x := by rw [o.N]; exact ixOf_get h
theorem name_ok (o : Ok X cl C c) {x : Str} {pos : Pos} {d : E} (h : cName c x = some d) : PE X (.Name x pos) (SE X cl (evE C d)) ∧ ∀ ρ m, evT C d ρ m = (evE C d ρ m).bind fun w m => D.truthy m w := by
 unfold cName at h
 split at h
 ·cases h
 ·rename_i hs
  obtain ⟨h1, h2, h3⟩ := special_ok (by simpa using hs)
  split at h
  ·rename_i hk
   simp only [Option.map_eq_some_iff] at h
   obtain ⟨i, hi, rfl⟩ := h
   exact ⟨s_var (o.slot hi) (o.vis hk (.inl rfl)) h1 h2, fun _ _ => by simp only [sT_and, sT_or, sT_not, sT_cmp, sT_chain, sT_ife, sT_var, sT_cst, sT_bin, sT_neg, sT_tup, sT_lst, sT_idx, sT_slc, sT_call, sT_blt, sT_isI, sT_meth, sT_comp, sT_frz, sT_fld, sT_make, sT_mth, sT_set0, sE_var, sE_cst, sE_bin, sE_neg, sE_not, sE_and, sE_or, sE_cmp, sE_chain, sE_ife, sE_tup, sE_lst, sE_idx, sE_slc, sE_call, sE_blt, sE_isI, sE_meth, sE_comp, sE_lrng, sE_frz, sE_fld, sE_make, sE_mth, sE_set0, sE_sset]⟩
  ·rename_i hk
   simp only [Option.map_eq_some_iff] at h
   obtain ⟨i, hi, rfl⟩ := h
   exact ⟨s_var (o.slot hi) (o.vis hk (.inr (.inl rfl))) h1 h2, fun _ _ => by simp only [sT_and, sT_or, sT_not, sT_cmp, sT_chain, sT_ife, sT_var, sT_cst, sT_bin, sT_neg, sT_tup, sT_lst, sT_idx, sT_slc, sT_call, sT_blt, sT_isI, sT_meth, sT_comp, sT_frz, sT_fld, sT_make, sT_mth, sT_set0, sE_var, sE_cst, sE_bin, sE_neg, sE_not, sE_and, sE_or, sE_cmp, sE_chain, sE_ife, sE_tup, sE_lst, sE_idx, sE_slc, sE_call, sE_blt, sE_isI, sE_meth, sE_comp, sE_lrng, sE_frz, sE_fld, sE_make, sE_mth, sE_set0, sE_sset]⟩
  ·rename_i hk
   simp only [Option.map_eq_some_iff] at h
   obtain ⟨i, hi, rfl⟩ := h
   exact ⟨s_var (o.slot hi) (o.vis hk (.inr (.inr rfl))) h1 h2, fun _ _ => by simp only [sT_and, sT_or, sT_not, sT_cmp, sT_chain, sT_ife, sT_var, sT_cst, sT_bin, sT_neg, sT_tup, sT_lst, sT_idx, sT_slc, sT_call, sT_blt, sT_isI, sT_meth, sT_comp, sT_frz, sT_fld, sT_make, sT_mth, sT_set0, sE_var, sE_cst, sE_bin, sE_neg, sE_not, sE_and, sE_or, sE_cmp, sE_chain, sE_ife, sE_tup, sE_lst, sE_idx, sE_slc, sE_call, sE_blt, sE_isI, sE_meth, sE_comp, sE_lrng, sE_frz, sE_fld, sE_make, sE_mth, sE_set0, sE_sset]⟩
  ·rename_i hk
   simp only [Option.map_eq_some_iff] at h
   obtain ⟨w, hw, rfl⟩ := h
   exact ⟨s_glb (o.glb hk) (o.gl hw) h1, fun _ _ => by simp only [sT_and, sT_or, sT_not, sT_cmp, sT_chain, sT_ife, sT_var, sT_cst, sT_bin, sT_neg, sT_tup, sT_lst, sT_idx, sT_slc, sT_call, sT_blt, sT_isI, sT_meth, sT_comp, sT_frz, sT_fld, sT_make, sT_mth, sT_set0, sE_var, sE_cst, sE_bin, sE_neg, sE_not, sE_and, sE_or, sE_cmp, sE_chain, sE_ife, sE_tup, sE_lst, sE_idx, sE_slc, sE_call, sE_blt, sE_isI, sE_meth, sE_comp, sE_lrng, sE_frz, sE_fld, sE_make, sE_mth, sE_set0, sE_sset]⟩
  ·cases h
noncomputable def Tells (X : L2.Cx) (cl : Cl) (C : D.Cx) (e : Expr) (d : E) : Prop := PE X e (SE X cl (evE C d)) ∧ PT X e (ST X cl (evT C d))
theorem tells_val {e : Expr} {d : E} (h : PE X e (SE X cl (evE C d))) (he : ∀ whole, isTrue e X.env whole = (do let v ← whole; standAt e.pos; holding [v] (PySem.truthy v))) (hd : ∀ ρ m, evT C d ρ m = (evE C d ρ m).bind fun w m => D.truthy m w) : Tells X cl C e d := ⟨h, t_val h he hd⟩
theorem tells_wz {e : Expr} {d : E} (h : Tells X cl C e d) : Tells X cl C e (wz c e d) := by
 unfold wz
 split
 ·rename_i hc
  simp only [Bool.and_eq_true] at hc
  refine ⟨s_frz h.1, t_val (s_frz h.1) ?_ fun _ _ => by simp only [sT_and, sT_or, sT_not, sT_cmp, sT_chain, sT_ife, sT_var, sT_cst, sT_bin, sT_neg, sT_tup, sT_lst, sT_idx, sT_slc, sT_call, sT_blt, sT_isI, sT_meth, sT_comp, sT_frz, sT_fld, sT_make, sT_mth, sT_set0, sE_var, sE_cst, sE_bin, sE_neg, sE_not, sE_and, sE_or, sE_cmp, sE_chain, sE_ife, sE_tup, sE_lst, sE_idx, sE_slc, sE_call, sE_blt, sE_isI, sE_meth, sE_comp, sE_lrng, sE_frz, sE_fld, sE_make, sE_mth, sE_set0, sE_sset]⟩
  have := hc.1
  cases e <;> first | (intro _; rfl) | cases this
 ·exact h
theorem es_ok {f : Expr → Option E} (ih : ∀ e d, f e = some d → Tells X cl C e d) : ∀ {es : List Expr} {ds : Es}, cEs f es = some ds → PA X es (SA X cl (evEs C ds))
 | [], _, h => by cases h; exact a_nil
 | e :: es, ds, h => by
  obtain ⟨hs, d, ds', h1, h2, rfl⟩ := cEs_hd h
  exact a_cons (ih e d h1).1 (es_ok ih h2) (star_ok hs)
theorem o_ok {f : Expr → Option E} (ih : ∀ e d, f e = some d → Tells X cl C e d) {e : Option Expr} {d : Oe} (h : cO f e = some d) : PO X e (SOo X cl (evO C d)) := by
 cases e with
 | none => cases h; exact o_none
 | some e =>
  simp only [cO, Option.map_eq_some_iff] at h
  obtain ⟨d', h1, rfl⟩ := h
  exact o_some (ih e d' h1).1
theorem bs_ok {f : Expr → Option E} (ih : ∀ e d, f e = some d → Tells X cl C e d) {op : BoolOp} {pos : Pos} : ∀ {es : List Expr} {d : E}, cBs f op es = some d → PE X (.BoolOp op es pos) (SE X cl (evE C d)) ∧ PW X (.BoolOp op es pos) (ST X cl (evT C d))
 | [], _, h => by cases h
 | [e], d, h => by
  have q := ih e d h
  cases op with
  | And => exact ⟨pe_one q.1, pw_and1 q.2⟩
  | Or => exact ⟨pe_one q.1, pw_or1 q.2⟩
 | e :: e' :: r, d, h => by
  unfold cBs at h
  split at h
  ·cases h
  ·rename_i d1 h1
   split at h
   ·cases h
   ·rename_i d2 h2
    obtain ⟨q1, q2⟩ := bs_ok (pos := pos) ih h2
    obtain ⟨p1, p2⟩ := ih e d1 h1
    cases op with
    | And => cases h; exact ⟨s_and p1 q1, w_and p2 q2⟩
    | Or => cases h; exact ⟨s_or p1 q1, w_or p2 q2⟩
theorem t_chain {a b c' : Expr} {da db dc : E} {o1 o2 : CmpOp} {pos : Pos} (hu : UN X cl) (ha : PE X a (SE X cl (evE C da))) (hb : PE X b (SE X cl (evE C db))) (hc : PE X c' (SE X cl (evE C dc))) (hm : lastMarks [o1, o2] [b, c'] = false) :
  PT X (.Compare a [o1, o2] [b, c'] pos) (ST X cl (evT C (.chain o1 o2 da db dc))) := by
 refine PT.imp (pt_chain (so_cmp (cl := cl) hu o1) (so_cmp (cl := cl) hu o2) ha hb hc hm) ?_
 rintro σ H Q ⟨β, ρ, m, w, m', r, l, e, k⟩
 simp only [sT_and, sT_or, sT_not, sT_cmp, sT_chain, sT_ife, sT_var, sT_cst, sT_bin, sT_neg, sT_tup, sT_lst, sT_idx, sT_slc, sT_call, sT_blt, sT_isI, sT_meth, sT_comp, sT_frz, sT_fld, sT_make, sT_mth, sT_set0, sE_var, sE_cst, sE_bin, sE_neg, sE_not, sE_and, sE_or, sE_cmp, sE_chain, sE_ife, sE_tup, sE_lst, sE_idx, sE_slc, sE_call, sE_blt, sE_isI, sE_meth, sE_comp, sE_lrng, sE_frz, sE_fld, sE_make, sE_mth, sE_set0, sE_sset] at e
 obtain ⟨x, m1, e1, e⟩ := R.bind_ok e
 obtain ⟨y, m2, e2, e⟩ := R.bind_ok e
 obtain ⟨z, m3, e3, e⟩ := R.bind_ok e
 refine ⟨β, ρ, m, x, m1, r, l, e1, fun β1 H1 v1 x1 r1 q1 => ?_⟩
 refine ⟨β1, ρ, m1, y, m2, r1, l.mono r x1, e2, fun β2 H2 v2 x2 r2 q2 => ?_⟩
 have l2 := (l.mono r x1).mono r1 x2
 refine ⟨β2, m2, x, y, .bl z, m3, r2, q1.mono r1 x2, q2, by dsimp only; rw [e3]; rfl, fun β3 H3 v3 x3 r3 q3 => ?_⟩
 cases q3
 refine ⟨z, rfl, ?_⟩
 have x03 := (x1.trans r1 x2).trans r2 x3
 split at e
 ·rename_i hc
  rw [if_pos hc]
  obtain ⟨u, m4, e4, e⟩ := R.bind_ok e
  refine ⟨β3, ρ, m3, u, m4, r3, l2.mono r2 x3, e4, fun β4 H4 v4 x4 r4 q4 => ?_⟩
  refine ⟨β4, m4, y, u, .bl w, m', r4, (q2.mono r2 x3).mono r3 x4, q4, by dsimp only; rw [e]; rfl, fun β5 H5 v5 x5 r5 q5 => ?_⟩
  cases q5
  exact ⟨_, rfl, k _ _ ((x03.trans r3 x4).trans r4 x5) r5⟩
 ·rename_i hc
  rw [if_neg hc]
  cases e
  exact ⟨_, rfl, k _ _ x03 r3⟩
theorem t_ife {t a b : Expr} {dt da db : E} {pos : Pos} (ht : PT X t (ST X cl (evT C dt))) (ha : PT X a (ST X cl (evT C da))) (hb : PT X b (ST X cl (evT C db))) : PT X (.IfExp t a b pos) (ST X cl (evT C (.ife dt da db))) := by
 intro pins s σ H Q I h
 obtain ⟨β, ρ, m, w, m', r, l, e, k⟩ := h
 simp only [sT_and, sT_or, sT_not, sT_cmp, sT_chain, sT_ife, sT_var, sT_cst, sT_bin, sT_neg, sT_tup, sT_lst, sT_idx, sT_slc, sT_call, sT_blt, sT_isI, sT_meth, sT_comp, sT_frz, sT_fld, sT_make, sT_mth, sT_set0, sE_var, sE_cst, sE_bin, sE_neg, sE_not, sE_and, sE_or, sE_cmp, sE_chain, sE_ife, sE_tup, sE_lst, sE_idx, sE_slc, sE_call, sE_blt, sE_isI, sE_meth, sE_comp, sE_lrng, sE_frz, sE_fld, sE_make, sE_mth, sE_set0, sE_sset] at e
 obtain ⟨x, m1, e1, e⟩ := R.bind_ok e
 show wpAny _ _ (isTrue t X.env (eval t X.env) >>= fun z => if z = true then isTrue a X.env (eval a X.env) else isTrue b X.env (eval b X.env)) _ _ s
 refine wpAny_bind (thn (ht pins s σ H (fun c H1 => c = x ∧ ∃ β1, Ext β H β1 H1 ∧ Rel X.K cl β1 m1 H1) I ⟨β, ρ, m, x, m1, r, l, e1, fun β1 H1 x1 r1 => ⟨rfl, β1, x1, r1⟩⟩) fun c s1 hZ_ => ?_)
 obtain ⟨H1, I1, hc, β1, x1, r1⟩ := hZ_
 subst hc
 cases c with
 | true => exact ha pins s1 σ H1 Q I1 ⟨β1, ρ, m1, w, m', r1, l.mono r x1, e, fun β2 H2 x2 r2 => k _ _ (x1.trans r1 x2) r2⟩
 | false => exact hb pins s1 σ H1 Q I1 ⟨β1, ρ, m1, w, m', r1, l.mono r x1, e, fun β2 H2 x2 r2 => k _ _ (x1.trans r1 x2) r2⟩
end
end D
end
section
set_option Elab.async false
set_option linter.all false
set_option maxRecDepth 100000
set_option autoImplicit false
namespace D
open PySem PySem.Spec PyProof.Rows L2
section
variable {X : L2.Cx} {cl : Cl} {C : D.Cx} {c : Ci}
theorem tslot_ok (o : Ok X cl C c) {x : Str} {i : Nat} (h : tslot c x = some i) : X.N[i]? = some x ∧ L2.Loc X.env.scope x ∧ (X.fn x = true ∨ X.env.scope.names.lookup x = some .local) := by
 unfold tslot at h
 split at h
 ·rename_i hk
  exact ⟨o.slot h, o.loc hk (.inl rfl)⟩
 ·rename_i hk
  exact ⟨o.slot h, o.loc hk (.inr rfl)⟩
 ·cases h
theorem ndX (o : Ok X cl C c) : X.N.Nodup := by rw [o.N]; exact o.nd
theorem ts_ok {f : Expr → Option T} (ih : ∀ e t, f e = some t → PG X e (SG X cl (evA C (.pt t)))) : ∀ {es : List Expr} {ts : Ts}, cTs f es = some ts →
  PGs X es (SGs X cl (evAs C (T.ofTs ts))) ∧ (assignEach es X.env).length = (T.ofTs ts).len ∧ (assignEach es X.env).findIdx? (·.1) = none
 | [], _, h => by cases h; exact ⟨gs_nil, rfl, rfl⟩
 | e :: es, ts, h => by
  unfold cTs at h
  split at h
  ·rename_i hs
   split at h
   ·cases h
   ·rename_i d h1
    split at h
    ·cases h
    ·rename_i ds h2
     cases h
     obtain ⟨q1, q2, q3⟩ := ts_ok ih h2
     have e1 := asg_each (env := X.env) (es := es) hs
     refine ⟨gs_cons (ih e d h1) q1 (by rw [e1]; rfl), ?_, ?_⟩
     ·rw [e1, List.length_cons, q2]; rfl
     ·rw [e1, List.findIdx?_cons]
      simp [q3]
  ·cases h
theorem cT_ok (o : Ok X cl C c) : ∀ (n : Nat) (e : Expr) (t : T), cT n c e = some t → PG X e (SG X cl (evA C (.pt t)))
 | 0, _, _, h => by cases h
 | n + 1, e, t, h => by
  unfold cT at h
  split at h
  ·simp only [Option.map_eq_some_iff] at h
   obtain ⟨i, hi, rfl⟩ := h
   obtain ⟨h1, h2, h3⟩ := tslot_ok o hi
   exact g_var (ndX o) h1 h2 h3
  ·simp only [Option.map_eq_some_iff] at h
   obtain ⟨ts, hi, rfl⟩ := h
   obtain ⟨q1, q2, q3⟩ := ts_ok (fun e t h => cT_ok o n e t h) hi
   exact g_ptup (g_tup o.calm q1 q2 q3)
  ·cases h
theorem evI_dflt {d : E} (h : isIt d = false) : ∀ ρ m, evI C d ρ m = (evE C d ρ m).bind toI := by
 intro ρ m
 cases d <;> first | (simp [isIt] at h; done) | (simp only [sI_rng, sI_enm, sI_var, sI_cst, sI_bin, sI_neg, sI_not, sI_and, sI_or, sI_cmp, sI_chain, sI_ife, sI_tup, sI_lst, sI_idx, sI_slc, sI_call, sI_blt, sI_isI, sI_meth, sI_comp, sI_lrng, sI_frz, sI_fld, sI_make, sI_mth, sI_set0, sI_sset, sE_var, sE_cst, sE_bin, sE_neg, sE_not, sE_and, sE_or, sE_cmp, sE_chain, sE_ife, sE_tup, sE_lst, sE_idx, sE_slc, sE_call, sE_blt, sE_isI, sE_meth, sE_comp, sE_lrng, sE_frz, sE_fld, sE_make, sE_mth, sE_set0, sE_sset]; done) | rfl
theorem dflt_ok {f : Expr → Option E} (ih : ∀ e d, f e = some d → Tells X cl C e d) {tg e : Expr} {d : E} (h : (match f e with | some d => if isIt d = true then none else some d | none => none) = some d) : PI X tg e (SI X cl (evI C d)) := by
 split at h
 ·rename_i d' h1
  split at h
  ·cases h
  ·rename_i hi
   cases h
   exact i_val (ih _ _ h1).1 (evI_dflt (by simpa using hi))
 ·cases h
theorem cI_ok (o : Ok X cl C c) {f : Expr → Option E} (ih : ∀ e d, f e = some d → Tells X cl C e d) {tg e : Expr} {d : E} (h : cI f c tg e = some d) : PI X tg e (SI X cl (evI C d)) := by
 unfold cI at h
 split at h
 ·rename_i x p args kws pos
  split at h
  ·rename_i hk
   simp only [Bool.and_eq_true, beq_iff_eq, List.isEmpty_iff] at hk
   obtain ⟨⟨⟨hk1, hk2⟩, hk3⟩, hk4⟩ := hk
   subst hk1
   split at h
   ·rename_i hx
    subst hx
    have hm := o.blt "range" (by decide +kernel)
    split at h
    ·split at h
     ·rename_i hs
      simp only [Option.map_eq_some_iff] at h
      obtain ⟨d', h1, rfl⟩ := h
      exact i_rng (o.glb hk2) hm (ih _ _ h1).1 (star_ok hs)
     ·cases h
    ·cases h
   ·split at h
    ·rename_i hx
     subst hx
     have hm := o.blt "enumerate" (by decide +kernel)
     split at h
     ·split at h
      ·rename_i hs
       simp only [Option.map_eq_some_iff] at h
       obtain ⟨d', h1, rfl⟩ := h
       exact i_enm (o.glb hk2) hm (ih _ _ h1).1 (star_ok hs)
      ·cases h
     ·cases h
    ·
      exact dflt_ok ih h
  ·exact dflt_ok ih h
 ·exact dflt_ok ih h
theorem cIfs_ok {f : Expr → Option E} (ih : ∀ e d, f e = some d → Tells X cl C e d) {es : List Expr} {ds : Es} (h : cIfs f es = some ds) : PIfs X es (ST X cl (evIfs C ds)) := by
 unfold cIfs at h
 split at h
 ·cases h; exact ifs_nil
 ·simp only [Option.map_eq_some_iff] at h
  obtain ⟨d, h1, rfl⟩ := h
  exact ifs_one (ih _ _ h1).2
 ·cases h
theorem cGs_head {f : Expr → Option E} {n : Nat} {elt : Expr} {gs : List Comprehension} {g : G} (h : cGs f n c elt gs = some g) : ∀ g', gs[0]? = some g' → g'.is_async = 0 ∧ ∀ (env : Env) x, foldedSetIterable g'.iter env x = pure x := by
 intro g' hg
 cases gs with
 | nil => simp at hg
 | cons g0 gs =>
  simp at hg
  subst hg
  obtain ⟨tg, it, ifs, as⟩ := g0
  unfold cGs at h
  split at h
  ·rename_i hs
   exact ⟨hs.1, fun env x => set_ok hs.2 x⟩
  ·cases h
theorem cGs_ok (o : Ok X cl C c) (hx : X.xe = fun _ _ => False) {f : Expr → Option E} (ih : ∀ e d, f e = some d → Tells X cl C e d) {n : Nat} {elt : Expr} {scope : Scope} {pos : Pos} {gens : List Comprehension} {Δ : Addr} : ∀ {gs : List Comprehension} {g : G} {d0 : Nat}, cGs f n c elt gs = some g → (∀ i, gens[d0 + 1 + i]? = gs[i]?) →
  PB X (.ListComp elt gens scope pos) elt gens d0 Δ (SB X cl Δ (evG C g))
 | [], g, d0, h, hg => by
  simp only [cGs, Option.map_eq_some_iff] at h
  obtain ⟨d, h1, rfl⟩ := h
  exact b_last hx (by simpa using hg 0) (ih _ _ h1).1
 | ⟨tg, it, ifs, as⟩ :: gs, g, d0, h, hg => by
  unfold cGs at h
  split at h
  ·rename_i hs
   split at h
   ·rename_i t d ds g' h1 h2 h3 h4
    cases h
    obtain ⟨rfl, hs2⟩ := hs
    have hh := cGs_head h4
    refine b_gen hx o.calm (by simpa using hg 0) (fun g2 hg2 => ?_) (cI_ok o ih h2) (cT_ok o n _ _ h1) (cIfs_ok ih h3) (cGs_ok o hx ih (d0 := d0 + 1) h4 fun i => ?_)
    ·have := hg 1
     rw [hg2] at this
     obtain ⟨a1, a2⟩ := hh g2 (by simpa using this.symm)
     exact ⟨a1, a2 _⟩
    ·have := hg (i + 1)
     rw [show d0 + 1 + 1 + i = d0 + 1 + (i + 1) by omega, this]
     simp
   ·cases h
  ·cases h
theorem lookup_relabel' {env : Env} : ∀ {names : List (Str × NameKind)} {x : Str} {k : NameKind}, names.lookup x = some k →
  (names.map fun (n, k) => if (k == NameKind.free && env.scope.kind == .function && env.kindOf n == some .cell) then (n, NameKind.cell) else (n, k)).lookup x = some k ∨
  (k = .free ∧ (names.map fun (n, k) => if (k == NameKind.free && env.scope.kind == .function && env.kindOf n == some .cell) then (n, NameKind.cell) else (n, k)).lookup x = some .cell)
 | [], _, _, h => by simp at h
 | (n, k0) :: r, x, k, h => by
  have ih := @lookup_relabel' env r x k
  show List.lookup x ((if (k0 == NameKind.free && env.scope.kind == .function && env.kindOf n == some .cell) = true then (n, NameKind.cell) else (n, k0)) :: (r.map fun (n, k) => if (k == NameKind.free && env.scope.kind == .function && env.kindOf n == some .cell) then (n, NameKind.cell) else (n, k))) = some k ∨ (k = .free ∧ List.lookup x ((if (k0 == NameKind.free && env.scope.kind == .function && env.kindOf n == some .cell) = true then (n, NameKind.cell) else (n, k0)) :: (r.map fun (n, k) => if (k == NameKind.free && env.scope.kind == .function && env.kindOf n == some .cell) then (n, NameKind.cell) else (n, k))) = some .cell)
  cases hx : x == n with
  | true =>
   simp only [List.lookup_cons, hx] at h
   cases h
   by_cases hc : (k0 == NameKind.free && env.scope.kind == .function && env.kindOf n == some .cell) = true
   ·rw [if_pos hc]
    have hk : k0 = .free := by
     simp only [Bool.and_eq_true] at hc
     simpa using hc.1.1
    exact .inr ⟨hk, by simp only [List.lookup_cons, hx]⟩
   ·rw [if_neg hc]
    exact .inl (by simp only [List.lookup_cons, hx])
  | false =>
   simp only [List.lookup_cons, hx] at h
   have := ih h
   split <;> (simp only [List.lookup_cons, hx]; exact this)
theorem Ok.comp (o : Ok X cl C c) {scope : Scope} (hc : compOk c.N scope c.names = true) : CompOk X.N (ownJs c.N scope.names) scope X.env.scope ∧ ∀ cl' s₀ H₀ fp pn, Ok (X.comp scope cl' s₀ H₀ fp pn) cl C { c with names := scope.names } := by
 unfold compOk at hc
 simp only [Bool.and_eq_true, decide_eq_true_eq, List.all_eq_true, Bool.or_eq_true] at hc
 obtain ⟨h1, h2⟩ := hc
 have nocell : ∀ y ∈ scope.names, y.2 ≠ .cell := fun y hy => (h2 y hy).1.1
 refine ⟨⟨h1, nocell, fun y hy hl => ?_, fun p hp hl => ?_, fun y hy hf => ?_⟩, fun cl' s₀ H₀ fp pn => ⟨o.N, o.nd, fun {x k} hk hv => ?_, fun {x k} hk hv => ?_, fun {x} hk => ?_, fun {x} hk => ?_, o.calm, ⟨o.units.un, o.units.P, o.units.w⟩, o.hand, o.blt, o.fn, o.gl, o.cs, o.fld, o.mth, o.ini⟩⟩
 ·rcases (h2 y hy).1.2 with z | z
  ·exact absurd hl z
  ·exact z
 ·unfold ownJs
  rw [o.N] at hp
  refine List.mem_map.mpr ⟨p, List.mem_filter.mpr ⟨hp, by simp [hl]⟩, rfl⟩
 ·rcases (h2 y hy).2 with (z | z) | z
  ·exact absurd hf z
  ·exact o.cel (.inl z)
  ·exact o.cel (.inr z)
 ·rcases lookup_relabel' (env := X.env) hk with z | ⟨z1, z⟩
  ·rcases hv with rfl | rfl | rfl
   ·exact .inl z
   ·exact .inr (.inl z)
   ·exact .inr (.inr z)
  ·exact .inr (.inl z)
 ·rcases hv with rfl | rfl
  ·rcases lookup_relabel' (env := X.env) hk with z | ⟨z1, z⟩
   ·exact ⟨.inl z, .inr z⟩
   ·cases z1
  ·exact absurd rfl (nocell _ (PySem.mem_of_lookup hk))
 ·rcases hk with hk | hk
  ·exact absurd rfl (nocell _ (PySem.mem_of_lookup hk))
  ·rcases lookup_relabel' (env := X.env) hk with z | ⟨z1, z⟩
   ·exact .inr z
   ·exact .inl z
 ·rcases lookup_relabel' (env := X.env) hk with z | ⟨z1, z⟩
  ·exact z
  ·cases z1
end
theorem cE_ok {cl : Cl} {C : D.Cx} : ∀ (n : Nat) (X : L2.Cx) (c : Ci) (e : Expr) (d : E), Ok X cl C c → cE n c e = some d → Tells X cl C e d
 | 0, _, _, _, _, _, h => by cases h
 | n + 1, X, c, e, d, o, h => by
  have ih : ∀ e d, cE n c e = some d → Tells X cl C e d := fun e d h => cE_ok n X c e d o h
  unfold cE at h
  simp only [Option.map_eq_some_iff] at h
  obtain ⟨d, h, rfl⟩ := h
  refine tells_wz ?_
  split at h
  ·
   obtain ⟨q1, q2⟩ := name_ok o h
   exact tells_val q1 (fun _ => rfl) q2
  ·
   split at h
   ·cases h; exact tells_val s_int (fun _ => rfl) fun _ _ => by simp only [sT_and, sT_or, sT_not, sT_cmp, sT_chain, sT_ife, sT_var, sT_cst, sT_bin, sT_neg, sT_tup, sT_lst, sT_idx, sT_slc, sT_call, sT_blt, sT_isI, sT_meth, sT_comp, sT_frz, sT_fld, sT_make, sT_mth, sT_set0, sE_var, sE_cst, sE_bin, sE_neg, sE_not, sE_and, sE_or, sE_cmp, sE_chain, sE_ife, sE_tup, sE_lst, sE_idx, sE_slc, sE_call, sE_blt, sE_isI, sE_meth, sE_comp, sE_lrng, sE_frz, sE_fld, sE_make, sE_mth, sE_set0, sE_sset]
   ·cases h; exact tells_val s_bl (fun _ => rfl) fun _ _ => by simp only [sT_and, sT_or, sT_not, sT_cmp, sT_chain, sT_ife, sT_var, sT_cst, sT_bin, sT_neg, sT_tup, sT_lst, sT_idx, sT_slc, sT_call, sT_blt, sT_isI, sT_meth, sT_comp, sT_frz, sT_fld, sT_make, sT_mth, sT_set0, sE_var, sE_cst, sE_bin, sE_neg, sE_not, sE_and, sE_or, sE_cmp, sE_chain, sE_ife, sE_tup, sE_lst, sE_idx, sE_slc, sE_call, sE_blt, sE_isI, sE_meth, sE_comp, sE_lrng, sE_frz, sE_fld, sE_make, sE_mth, sE_set0, sE_sset]
   ·cases h; exact tells_val s_non (fun _ => rfl) fun _ _ => by simp only [sT_and, sT_or, sT_not, sT_cmp, sT_chain, sT_ife, sT_var, sT_cst, sT_bin, sT_neg, sT_tup, sT_lst, sT_idx, sT_slc, sT_call, sT_blt, sT_isI, sT_meth, sT_comp, sT_frz, sT_fld, sT_make, sT_mth, sT_set0, sE_var, sE_cst, sE_bin, sE_neg, sE_not, sE_and, sE_or, sE_cmp, sE_chain, sE_ife, sE_tup, sE_lst, sE_idx, sE_slc, sE_call, sE_blt, sE_isI, sE_meth, sE_comp, sE_lrng, sE_frz, sE_fld, sE_make, sE_mth, sE_set0, sE_sset]
   ·cases h; exact tells_val s_str (fun _ => rfl) fun _ _ => by simp only [sT_and, sT_or, sT_not, sT_cmp, sT_chain, sT_ife, sT_var, sT_cst, sT_bin, sT_neg, sT_tup, sT_lst, sT_idx, sT_slc, sT_call, sT_blt, sT_isI, sT_meth, sT_comp, sT_frz, sT_fld, sT_make, sT_mth, sT_set0, sE_var, sE_cst, sE_bin, sE_neg, sE_not, sE_and, sE_or, sE_cmp, sE_chain, sE_ife, sE_tup, sE_lst, sE_idx, sE_slc, sE_call, sE_blt, sE_isI, sE_meth, sE_comp, sE_lrng, sE_frz, sE_fld, sE_make, sE_mth, sE_set0, sE_sset]
   ·cases h
  ·
   split at h
   ·rename_i d1 d2 h1 h2
    cases h
    exact tells_val (s_bin (ih _ _ h1).1 (ih _ _ h2).1) (fun _ => rfl) fun _ _ => by simp only [sT_and, sT_or, sT_not, sT_cmp, sT_chain, sT_ife, sT_var, sT_cst, sT_bin, sT_neg, sT_tup, sT_lst, sT_idx, sT_slc, sT_call, sT_blt, sT_isI, sT_meth, sT_comp, sT_frz, sT_fld, sT_make, sT_mth, sT_set0, sE_var, sE_cst, sE_bin, sE_neg, sE_not, sE_and, sE_or, sE_cmp, sE_chain, sE_ife, sE_tup, sE_lst, sE_idx, sE_slc, sE_call, sE_blt, sE_isI, sE_meth, sE_comp, sE_lrng, sE_frz, sE_fld, sE_make, sE_mth, sE_set0, sE_sset]
   ·cases h
  ·
   split at h
   ·simp only [Option.map_eq_some_iff] at h
    obtain ⟨d', h1, rfl⟩ := h
    exact tells_val (s_neg (ih _ _ h1).1) (fun _ => rfl) fun _ _ => by simp only [sT_and, sT_or, sT_not, sT_cmp, sT_chain, sT_ife, sT_var, sT_cst, sT_bin, sT_neg, sT_tup, sT_lst, sT_idx, sT_slc, sT_call, sT_blt, sT_isI, sT_meth, sT_comp, sT_frz, sT_fld, sT_make, sT_mth, sT_set0, sE_var, sE_cst, sE_bin, sE_neg, sE_not, sE_and, sE_or, sE_cmp, sE_chain, sE_ife, sE_tup, sE_lst, sE_idx, sE_slc, sE_call, sE_blt, sE_isI, sE_meth, sE_comp, sE_lrng, sE_frz, sE_fld, sE_make, sE_mth, sE_set0, sE_sset]
   ·simp only [Option.map_eq_some_iff] at h
    obtain ⟨d', h1, rfl⟩ := h
    exact ⟨s_not (ih _ _ h1).1, t_not (ih _ _ h1).2⟩
   ·cases h
  ·
   obtain ⟨q1, q2⟩ := bs_ok ih h
   exact ⟨q1, q2.pt⟩
  ·
   split at h
   ·split at h
    ·cases h
    ·rename_i hm
     split at h
     ·rename_i d1 d2 h1 h2
      cases h
      exact ⟨s_cmp o.units (ih _ _ h1).1 (ih _ _ h2).1 (by simpa using hm), t_cmp o.units (ih _ _ h1).1 (ih _ _ h2).1 (by simpa using hm)⟩
     ·cases h
   ·split at h
    ·cases h
    ·rename_i hm
     split at h
     ·rename_i d1 d2 d3 h1 h2 h3
      cases h
      have hm := (Bool.not_eq_true _).mp hm
      exact ⟨s_chain o.units (ih _ _ h1).1 (ih _ _ h2).1 (ih _ _ h3).1 (pe_chain (so_cmp o.units _) (so_cmp o.units _) (ih _ _ h1).1 (ih _ _ h2).1 (ih _ _ h3).1 hm), t_chain o.units (ih _ _ h1).1 (ih _ _ h2).1 (ih _ _ h3).1 hm⟩
     ·cases h
   ·cases h
  ·
   split at h
   ·rename_i d1 d2 d3 h1 h2 h3
    cases h
    exact ⟨s_ife (ih _ _ h1).2 (ih _ _ h2).1 (ih _ _ h3).1, t_ife (ih _ _ h1).2 (ih _ _ h2).2 (ih _ _ h3).2⟩
   ·cases h
  ·
   simp only [Option.map_eq_some_iff] at h
   obtain ⟨ds, h1, rfl⟩ := h
   exact tells_val (s_tup (es_ok ih h1)) (fun _ => rfl) fun _ _ => by simp only [sT_and, sT_or, sT_not, sT_cmp, sT_chain, sT_ife, sT_var, sT_cst, sT_bin, sT_neg, sT_tup, sT_lst, sT_idx, sT_slc, sT_call, sT_blt, sT_isI, sT_meth, sT_comp, sT_frz, sT_fld, sT_make, sT_mth, sT_set0, sE_var, sE_cst, sE_bin, sE_neg, sE_not, sE_and, sE_or, sE_cmp, sE_chain, sE_ife, sE_tup, sE_lst, sE_idx, sE_slc, sE_call, sE_blt, sE_isI, sE_meth, sE_comp, sE_lrng, sE_frz, sE_fld, sE_make, sE_mth, sE_set0, sE_sset]
  ·simp only [Option.map_eq_some_iff] at h
   obtain ⟨ds, h1, rfl⟩ := h
   exact tells_val (s_lst (es_ok ih h1)) (fun _ => rfl) fun _ _ => by simp only [sT_and, sT_or, sT_not, sT_cmp, sT_chain, sT_ife, sT_var, sT_cst, sT_bin, sT_neg, sT_tup, sT_lst, sT_idx, sT_slc, sT_call, sT_blt, sT_isI, sT_meth, sT_comp, sT_frz, sT_fld, sT_make, sT_mth, sT_set0, sE_var, sE_cst, sE_bin, sE_neg, sE_not, sE_and, sE_or, sE_cmp, sE_chain, sE_ife, sE_tup, sE_lst, sE_idx, sE_slc, sE_call, sE_blt, sE_isI, sE_meth, sE_comp, sE_lrng, sE_frz, sE_fld, sE_make, sE_mth, sE_set0, sE_sset]
  ·
   split at h
   ·split at h
    ·split at h
     ·rename_i d1 d2 d3 h1 h2 h3
      cases h
      exact tells_val (s_slc (ih _ _ h1).1 (o_ok ih h2) (o_ok ih h3)) (fun _ => rfl) fun _ _ => by simp only [sT_and, sT_or, sT_not, sT_cmp, sT_chain, sT_ife, sT_var, sT_cst, sT_bin, sT_neg, sT_tup, sT_lst, sT_idx, sT_slc, sT_call, sT_blt, sT_isI, sT_meth, sT_comp, sT_frz, sT_fld, sT_make, sT_mth, sT_set0, sE_var, sE_cst, sE_bin, sE_neg, sE_not, sE_and, sE_or, sE_cmp, sE_chain, sE_ife, sE_tup, sE_lst, sE_idx, sE_slc, sE_call, sE_blt, sE_isI, sE_meth, sE_comp, sE_lrng, sE_frz, sE_fld, sE_make, sE_mth, sE_set0, sE_sset]
     ·cases h
    ·cases h
   ·split at h
    ·cases h
    ·rename_i hs
     split at h
     ·rename_i d1 d2 h1 h2
      cases h
      exact tells_val (s_idx (ih _ _ h1).1 (ih _ _ h2).1 (plainIx ((Bool.not_eq_true _).mp hs))) (fun _ => rfl) fun _ _ => by simp only [sT_and, sT_or, sT_not, sT_cmp, sT_chain, sT_ife, sT_var, sT_cst, sT_bin, sT_neg, sT_tup, sT_lst, sT_idx, sT_slc, sT_call, sT_blt, sT_isI, sT_meth, sT_comp, sT_frz, sT_fld, sT_make, sT_mth, sT_set0, sE_var, sE_cst, sE_bin, sE_neg, sE_not, sE_and, sE_or, sE_cmp, sE_chain, sE_ife, sE_tup, sE_lst, sE_idx, sE_slc, sE_call, sE_blt, sE_isI, sE_meth, sE_comp, sE_lrng, sE_frz, sE_fld, sE_make, sE_mth, sE_set0, sE_sset]
     ·cases h
  ·
   rename_i f args kws pos
   split at h
   ·rename_i hk
    have hk : kws = [] := by simpa using hk
    subst hk
    split at h
    ·rename_i x p
     split at h
     ·cases h
     ·rename_i hsp
      obtain ⟨hs1, hs2, hs3⟩ := special_ok (by simpa using hsp)
      split at h
      ·rename_i hgl
       have hg := o.glb hgl
       split at h
       ·rename_i i np hf
        split at h
        ·split at h
         ·rename_i hnp
          cases h
          obtain ⟨k, fa, fd, ps, e1, e2, e3, e4, e5, e6⟩ := o.fn hf
          exact tells_val (s_call0 e6 e2 hg e3 e4 e5 (by rw [e1]; exact hnp) hs1) (fun _ => rfl) fun _ _ => by simp only [sT_and, sT_or, sT_not, sT_cmp, sT_chain, sT_ife, sT_var, sT_cst, sT_bin, sT_neg, sT_tup, sT_lst, sT_idx, sT_slc, sT_call, sT_blt, sT_isI, sT_meth, sT_comp, sT_frz, sT_fld, sT_make, sT_mth, sT_set0, sE_var, sE_cst, sE_bin, sE_neg, sE_not, sE_and, sE_or, sE_cmp, sE_chain, sE_ife, sE_tup, sE_lst, sE_idx, sE_slc, sE_call, sE_blt, sE_isI, sE_meth, sE_comp, sE_lrng, sE_frz, sE_fld, sE_make, sE_mth, sE_set0, sE_sset]
         ·cases h
        ·rename_i a r
         split at h
         ·rename_i hlen
          simp only [Option.map_eq_some_iff] at h
          obtain ⟨ds, h1, rfl⟩ := h
          obtain ⟨k, fa, fd, ps, e1, e2, e3, e4, e5, e6⟩ := o.fn hf
          obtain ⟨hst, d1, ds1, z1, z2, rfl⟩ := cEs_hd h1
          refine tells_val (s_call e6 e2 hg e3 e4 e5 (es_ok ih h1) (fun ρ m ws m' hw => ?_) hs1 (star_ok hst) (cEs_star z2)) (fun _ => rfl) fun _ _ => by simp only [sT_and, sT_or, sT_not, sT_cmp, sT_chain, sT_ife, sT_var, sT_cst, sT_bin, sT_neg, sT_tup, sT_lst, sT_idx, sT_slc, sT_call, sT_blt, sT_isI, sT_meth, sT_comp, sT_frz, sT_fld, sT_make, sT_mth, sT_set0, sE_var, sE_cst, sE_bin, sE_neg, sE_not, sE_and, sE_or, sE_cmp, sE_chain, sE_ife, sE_tup, sE_lst, sE_idx, sE_slc, sE_call, sE_blt, sE_isI, sE_meth, sE_comp, sE_lrng, sE_frz, sE_fld, sE_make, sE_mth, sE_set0, sE_sset]
          rw [evEs_len hw, cEs_len h1, e1]
          exact hlen
         ·cases h
       ·split at h
        ·rename_i ix hix
         split at h
         ·cases h
         ·rename_i a r
          simp only [Option.map_eq_some_iff] at h
          obtain ⟨ds, h1, rfl⟩ := h
          obtain ⟨hst, d1, ds1, z1, z2, rfl⟩ := cEs_hd h1
          rw [o.cs] at hix
          exact tells_val (s_make hix (o.ini hix) hg (es_ok ih h1) hs1 (star_ok hst) (cEs_star z2)) (fun _ => rfl) fun _ _ => by simp only [sT_and, sT_or, sT_not, sT_cmp, sT_chain, sT_ife, sT_var, sT_cst, sT_bin, sT_neg, sT_tup, sT_lst, sT_idx, sT_slc, sT_call, sT_blt, sT_isI, sT_meth, sT_comp, sT_frz, sT_fld, sT_make, sT_mth, sT_set0, sE_var, sE_cst, sE_bin, sE_neg, sE_not, sE_and, sE_or, sE_cmp, sE_chain, sE_ife, sE_tup, sE_lst, sE_idx, sE_slc, sE_call, sE_blt, sE_isI, sE_meth, sE_comp, sE_lrng, sE_frz, sE_fld, sE_make, sE_mth, sE_set0, sE_sset]
        split at h
        ·rename_i hset
         subst hset
         split at h
         ·cases h
          exact tells_val (s_set0 o.units hg (o.blt _ (by decide +kernel))) (fun _ => rfl) fun _ _ => by simp only [sT_and, sT_or, sT_not, sT_cmp, sT_chain, sT_ife, sT_var, sT_cst, sT_bin, sT_neg, sT_tup, sT_lst, sT_idx, sT_slc, sT_call, sT_blt, sT_isI, sT_meth, sT_comp, sT_frz, sT_fld, sT_make, sT_mth, sT_set0, sE_var, sE_cst, sE_bin, sE_neg, sE_not, sE_and, sE_or, sE_cmp, sE_chain, sE_ife, sE_tup, sE_lst, sE_idx, sE_slc, sE_call, sE_blt, sE_isI, sE_meth, sE_comp, sE_lrng, sE_frz, sE_fld, sE_make, sE_mth, sE_set0, sE_sset]
         ·cases h
        split at h
        ·rename_i b hb
         split at h
         ·cases h
         ·rename_i a r
          simp only [Option.map_eq_some_iff] at h
          obtain ⟨ds, h1, rfl⟩ := h
          obtain ⟨hst, d1, ds1, z1, z2, rfl⟩ := cEs_hd h1
          obtain ⟨hm, ⟨id, y1, y2⟩ | ⟨id, y1, y2⟩⟩ := bltTab_ok hb
          ·exact tells_val (s_bltF o.calm o.hand y1 hg (o.blt _ hm) y2 (es_ok ih h1) hs3 hs1 (star_ok hst) (cEs_star z2)) (fun _ => rfl) fun _ _ => by simp only [sT_and, sT_or, sT_not, sT_cmp, sT_chain, sT_ife, sT_var, sT_cst, sT_bin, sT_neg, sT_tup, sT_lst, sT_idx, sT_slc, sT_call, sT_blt, sT_isI, sT_meth, sT_comp, sT_frz, sT_fld, sT_make, sT_mth, sT_set0, sE_var, sE_cst, sE_bin, sE_neg, sE_not, sE_and, sE_or, sE_cmp, sE_chain, sE_ife, sE_tup, sE_lst, sE_idx, sE_slc, sE_call, sE_blt, sE_isI, sE_meth, sE_comp, sE_lrng, sE_frz, sE_fld, sE_make, sE_mth, sE_set0, sE_sset]
          ·exact tells_val (s_bltT o.calm o.hand y1 hg (o.blt _ hm) y2 (es_ok ih h1) hs3 hs1 (star_ok hst) (cEs_star z2)) (fun _ => rfl) fun _ _ => by simp only [sT_and, sT_or, sT_not, sT_cmp, sT_chain, sT_ife, sT_var, sT_cst, sT_bin, sT_neg, sT_tup, sT_lst, sT_idx, sT_slc, sT_call, sT_blt, sT_isI, sT_meth, sT_comp, sT_frz, sT_fld, sT_make, sT_mth, sT_set0, sE_var, sE_cst, sE_bin, sE_neg, sE_not, sE_and, sE_or, sE_cmp, sE_chain, sE_ife, sE_tup, sE_lst, sE_idx, sE_slc, sE_call, sE_blt, sE_isI, sE_meth, sE_comp, sE_lrng, sE_frz, sE_fld, sE_make, sE_mth, sE_set0, sE_sset]
        ·split at h
         ·rename_i hx
          subst hx
          split at h
          ·rename_i a t p2
           split at h
           ·cases h
           ·rename_i hsp2
            obtain ⟨hq1, hq2, hq3⟩ := special_ok (by simpa using hsp2)
            split at h
            ·rename_i hcond
             simp only [Bool.and_eq_true, beq_iff_eq] at hcond
             split at h
             ·rename_i tn d1 y1 y2
              cases h
              obtain ⟨z1, z2, z3⟩ := tyTab_ok y1
              exact tells_val (s_isI z2 hg (o.blt _ (by decide +kernel)) (o.glb hcond.2) (o.blt _ z1) z3 (ih _ _ y2).1 hq3 hq1 (star_ok hcond.1)) (fun _ => rfl) fun _ _ => by simp only [sT_and, sT_or, sT_not, sT_cmp, sT_chain, sT_ife, sT_var, sT_cst, sT_bin, sT_neg, sT_tup, sT_lst, sT_idx, sT_slc, sT_call, sT_blt, sT_isI, sT_meth, sT_comp, sT_frz, sT_fld, sT_make, sT_mth, sT_set0, sE_var, sE_cst, sE_bin, sE_neg, sE_not, sE_and, sE_or, sE_cmp, sE_chain, sE_ife, sE_tup, sE_lst, sE_idx, sE_slc, sE_call, sE_blt, sE_isI, sE_meth, sE_comp, sE_lrng, sE_frz, sE_fld, sE_make, sE_mth, sE_set0, sE_sset]
             ·cases h
            ·cases h
          ·cases h
         ·cases h
      ·cases h
    ·rename_i ob mm apos
     split at h
     ·cases h
     ·rename_i hc0
      split at h
      ·rename_i hline
       split at h
       ·rename_i nm id d1 y1 y2
        split at h
        ·rename_i hlen
         simp only [Option.map_eq_some_iff] at h
         obtain ⟨ds, h1, rfl⟩ := h
         obtain ⟨w0, w1, w2, w3⟩ := mtTab_ok (X := X) (cl := cl) o.units y1
         have hbase := base_ok (env := X.env) (m := mm) (by simpa using hc0 : isCall0 ob = false)
         cases args with
         | nil =>
          cases h1
          exact tells_val (s_meth0 rfl w0 w1 w2 w3 (ih _ _ y2).1 hbase hline) (fun _ => rfl) fun _ _ => by simp only [sT_and, sT_or, sT_not, sT_cmp, sT_chain, sT_ife, sT_var, sT_cst, sT_bin, sT_neg, sT_tup, sT_lst, sT_idx, sT_slc, sT_call, sT_blt, sT_isI, sT_meth, sT_comp, sT_frz, sT_fld, sT_make, sT_mth, sT_set0, sE_var, sE_cst, sE_bin, sE_neg, sE_not, sE_and, sE_or, sE_cmp, sE_chain, sE_ife, sE_tup, sE_lst, sE_idx, sE_slc, sE_call, sE_blt, sE_isI, sE_meth, sE_comp, sE_lrng, sE_frz, sE_fld, sE_make, sE_mth, sE_set0, sE_sset]
         | cons a r =>
          obtain ⟨hst, d2, ds1, z1, z2, rfl⟩ := cEs_hd h1
          refine tells_val (s_meth rfl w0 w1 w2 w3 (ih _ _ y2).1 (es_ok ih h1) hbase ?_ hline (star_ok hst) (cEs_star z2)) (fun _ => rfl) fun _ _ => by simp only [sT_and, sT_or, sT_not, sT_cmp, sT_chain, sT_ife, sT_var, sT_cst, sT_bin, sT_neg, sT_tup, sT_lst, sT_idx, sT_slc, sT_call, sT_blt, sT_isI, sT_meth, sT_comp, sT_frz, sT_fld, sT_make, sT_mth, sT_set0, sE_var, sE_cst, sE_bin, sE_neg, sE_not, sE_and, sE_or, sE_cmp, sE_chain, sE_ife, sE_tup, sE_lst, sE_idx, sE_slc, sE_call, sE_blt, sE_isI, sE_meth, sE_comp, sE_lrng, sE_frz, sE_fld, sE_make, sE_mth, sE_set0, sE_sset]
          rw [cEs_all h1]
          have : (a :: r).length + 0 + 0 < 30 := Nat.lt_of_lt_of_le hlen (by decide)
          show (true && true && decide _) = true
          exact decide_eq_true this
        ·cases h
       ·rename_i d1 y1 y2
        split at h
        ·rename_i hlen
         simp only [Option.map_eq_some_iff] at h
         obtain ⟨ds, h1, rfl⟩ := h
         have hbase := base_ok (env := X.env) (m := mm) (by simpa using hc0 : isCall0 ob = false)
         refine tells_val (s_mth (fun hx => o.mth hx) (ih _ _ y2).1 (es_ok ih h1) hbase ?_ hline ?_) (fun _ => rfl) fun _ _ => by simp only [sT_and, sT_or, sT_not, sT_cmp, sT_chain, sT_ife, sT_var, sT_cst, sT_bin, sT_neg, sT_tup, sT_lst, sT_idx, sT_slc, sT_call, sT_blt, sT_isI, sT_meth, sT_comp, sT_frz, sT_fld, sT_make, sT_mth, sT_set0, sE_var, sE_cst, sE_bin, sE_neg, sE_not, sE_and, sE_or, sE_cmp, sE_chain, sE_ife, sE_tup, sE_lst, sE_idx, sE_slc, sE_call, sE_blt, sE_isI, sE_meth, sE_comp, sE_lrng, sE_frz, sE_fld, sE_make, sE_mth, sE_set0, sE_sset]
         ·rw [cEs_all h1]
          have : args.length + 0 + 0 < 30 := Nat.lt_of_lt_of_le hlen (by decide)
          show (true && true && decide _) = true
          exact decide_eq_true this
         ·cases args with
          | nil => cases h1; exact .inl ⟨rfl, rfl⟩
          | cons a r =>
           obtain ⟨hst, d2, ds1, z1, z2, rfl⟩ := cEs_hd h1
           exact .inr ⟨a, r, rfl, star_ok hst, cEs_star z2⟩
        ·cases h
       ·cases h
      ·cases h
    ·cases h
   ·cases h
  ·
   rename_i ob f p
   split at h
   ·cases h
   ·rename_i hc0
    simp only [Option.map_eq_some_iff] at h
    obtain ⟨d1, h1, rfl⟩ := h
    exact tells_val (s_fld (fun hx => o.fld hx) (ih _ _ h1).1 (base_ok (by simpa using hc0 : isCall0 ob = false))) (fun _ => rfl) fun _ _ => by simp only [sT_and, sT_or, sT_not, sT_cmp, sT_chain, sT_ife, sT_var, sT_cst, sT_bin, sT_neg, sT_tup, sT_lst, sT_idx, sT_slc, sT_call, sT_blt, sT_isI, sT_meth, sT_comp, sT_frz, sT_fld, sT_make, sT_mth, sT_set0, sE_var, sE_cst, sE_bin, sE_neg, sE_not, sE_and, sE_or, sE_cmp, sE_chain, sE_ife, sE_tup, sE_lst, sE_idx, sE_slc, sE_call, sE_blt, sE_isI, sE_meth, sE_comp, sE_lrng, sE_frz, sE_fld, sE_make, sE_mth, sE_set0, sE_sset]
  ·
   rename_i elt gens scope pos
   split at h
   ·cases h
   ·rename_i tg it ifs as gs
    split at h
    ·rename_i hcond
     obtain ⟨rfl, hset, hco⟩ := hcond
     split at h
     ·rename_i t d1 ds g h1 h2 h3 h4
      cases h
      obtain ⟨ok, oc⟩ := o.comp hco
      have ihc : ∀ cl' s₀ H₀ fp pn e d, cE n { c with names := scope.names } e = some d → Tells (X.comp scope cl' s₀ H₀ fp pn) cl C e d := fun cl' s₀ H₀ fp pn e d h => cE_ok n _ _ e d (oc cl' s₀ H₀ fp pn) h
      refine tells_val (s_comp o.calm ok rfl (by simpa using cGs_head h4) (cI_ok o ih h2) (fun _ _ _ _ _ => cT_ok (oc _ _ _ _ _) n _ _ h1) (fun _ _ _ _ _ => cIfs_ok (ihc _ _ _ _ _) h3)
       (fun _ _ _ _ _ Δ => cGs_ok (oc _ _ _ _ _) rfl (ihc _ _ _ _ _) h4 fun i => by simp [Nat.add_comm]) (fun x => set_ok hset x) (eval_ListComp _ _ _ _)) (fun _ => rfl) fun _ _ => by simp only [sT_and, sT_or, sT_not, sT_cmp, sT_chain, sT_ife, sT_var, sT_cst, sT_bin, sT_neg, sT_tup, sT_lst, sT_idx, sT_slc, sT_call, sT_blt, sT_isI, sT_meth, sT_comp, sT_frz, sT_fld, sT_make, sT_mth, sT_set0, sE_var, sE_cst, sE_bin, sE_neg, sE_not, sE_and, sE_or, sE_cmp, sE_chain, sE_ife, sE_tup, sE_lst, sE_idx, sE_slc, sE_call, sE_blt, sE_isI, sE_meth, sE_comp, sE_lrng, sE_frz, sE_fld, sE_make, sE_mth, sE_set0, sE_sset]
     ·cases h
    ·cases h
  ·cases h
end D
end
section
set_option Elab.async false
set_option linter.all false
set_option maxRecDepth 100000
set_option autoImplicit false
namespace D
open PySem PySem.Spec PyProof.Rows L2
section
variable {env : Env}
theorem asg_sub {o i : Expr} {pos : Pos} (h : isSlice i = false) (v : Value) : assign (.Subscript o i pos) env v = (do
   let ov ← holding [v] (eval o env)
   let iv ← holding [v, ov] (eval i env)
   standAt pos
   holding [v, ov, iv] (setItem ov iv v)
   release [v, ov, iv] []) := by
 cases i <;> first | rfl | cases h
theorem sole_no {v tg : Expr} {l : Nat} (h : isNameE tg = false) : swapsWithSole [tg] v l env = pure false := by
 show swapsWith v (some tg) l env = pure false
 cases v <;> first | rfl | (cases tg <;> first | rfl | cases h)
theorem swap_at {v o : Expr} {f : Str} {p : Pos} {l : Nat} : swapsWith v (some (.Attribute o f p)) l env = pure false := by
 cases v <;> rfl
theorem stores_no {v tg : Expr} (h : (isTupE tg && isTupE v) = false) : swappedStores [tg] v env = pure none := by
 cases tg <;> first | rfl | (cases v <;> first | rfl | cases h)
end
theorem comp_kind {c : Ci} {n : Nat} {v : Expr} {d : E} (hc : isComp v = true) (h : cE n c v = some d) : ∃ elt gens scope pos, v = .ListComp elt gens scope pos := by
 cases n with
 | zero => cases h
 | succ n =>
  cases v with
  | ListComp elt gens scope pos => exact ⟨_, _, _, _, rfl⟩
  | SetComp elt gens scope pos => unfold cE at h; simp at h
  | DictComp k v gens scope pos => unfold cE at h; simp at h
  | _ => cases hc
section
variable {X : L2.Cx} {cl : Cl} {C : D.Cx} {c : Ci}
theorem as_ok {f : Expr → Option A} (ih : ∀ e t, f e = some t → PG X e (SG X cl (evA C t))) : ∀ {es : List Expr} {ts : As}, cAs f es = some ts →
  PGs X es (SGs X cl (evAs C ts)) ∧ (assignEach es X.env).length = ts.len ∧ (assignEach es X.env).findIdx? (·.1) = none
 | [], _, h => by cases h; exact ⟨gs_nil, rfl, rfl⟩
 | e :: es, ts, h => by
  unfold cAs at h
  split at h
  ·rename_i hs
   split at h
   ·cases h
   ·rename_i d h1
    split at h
    ·cases h
    ·rename_i ds h2
     cases h
     obtain ⟨q1, q2, q3⟩ := as_ok ih h2
     have e1 := asg_each (env := X.env) (es := es) hs
     refine ⟨gs_cons (ih e d h1) q1 (by rw [e1]; rfl), ?_, ?_⟩
     ·rw [e1, List.length_cons, q2]; rfl
     ·rw [e1, List.findIdx?_cons]
      simp [q3]
  ·cases h
theorem cA_ok (o : Ok X cl C c) : ∀ (n : Nat) (e : Expr) (t : A), cA n c e = some t → PG X e (SG X cl (evA C t))
 | 0, _, _, h => by cases h
 | n + 1, e, t, h => by
  unfold cA at h
  split at h
  ·simp only [Option.map_eq_some_iff] at h
   obtain ⟨i, hi, rfl⟩ := h
   obtain ⟨h1, h2, h3⟩ := tslot_ok o hi
   exact g_var (ndX o) h1 h2 h3
  ·simp only [Option.map_eq_some_iff] at h
   obtain ⟨ts, hi, rfl⟩ := h
   obtain ⟨q1, q2, q3⟩ := as_ok (fun e t h => cA_ok o n e t h) hi
   exact g_tup o.calm q1 q2 q3
  ·split at h
   ·cases h
   ·rename_i hs
    split at h
    ·rename_i d1 d2 h1 h2
     cases h
     exact g_sub (cE_ok n X c _ _ o h1).1 (cE_ok n X c _ _ o h2).1 (asg_sub ((Bool.not_eq_true _).mp hs))
    ·cases h
  ·cases h
theorem ss_ok {f : Stmt → Option S} (ih : ∀ s d, f s = some d → PS X s (SS X cl (evS C d))) : ∀ {es : List Stmt} {ds : Ss}, cSs f es = some ds → PSs X es (SS X cl (evSs C ds))
 | [], _, h => by cases h; exact ss_nil
 | e :: es, ds, h => by
  unfold cSs at h
  split at h
  ·cases h
  ·rename_i d h1
   split at h
   ·cases h
   ·rename_i ds h2
    cases h
    exact ss_cons (ih e d h1) (ss_ok ih h2)
theorem set_comp (o : Ok X cl C c) {n : Nat} {x : Str} {p pos spos : Pos} {elt : Expr} {gens : List Comprehension} {scope : Scope} {i : Nat} {d : E} (ht : tslot c x = some i) (h : cE n c (.ListComp elt gens scope pos) = some d) :
  PS X (.Assign [.Name x p] (.ListComp elt gens scope pos) spos) (SS X cl (evS C (.asg (.pt (.var i)) d))) := by
 obtain ⟨h1, h2, h3⟩ := tslot_ok o ht
 have e : swapsWith (.ListComp elt gens scope pos) (some (.Name x p)) spos.line X.env = pure (X.env.blockKind == .function && X.env.kindOf x == some .local && p.line == (Expr.ListComp elt gens scope pos).pos.line && !(scope.names.any fun (n, k) => n == x && (k == .local || k == .cell))) := rfl
 cases hb : (X.env.blockKind == .function && X.env.kindOf x == some .local && p.line == (Expr.ListComp elt gens scope pos).pos.line && !(scope.names.any fun (n, k) => n == x && (k == .local || k == .cell))) with
 | false =>
  rw [hb] at e
  exact st_set (ndX o) h1 h2 (cE_ok n X c _ _ o h).1 e h3
 | true =>
  rw [hb] at e
  cases n with
  | zero => cases h
  | succ n =>
   have ih : ∀ e d, cE n c e = some d → Tells X cl C e d := fun e d h => cE_ok n X c e d o h
   unfold cE at h
   simp only [Option.map_eq_some_iff] at h
   obtain ⟨d, h, rfl⟩ := h
   have wrap : PS X (.Assign [.Name x p] (.ListComp elt gens scope pos) spos) (SS X cl (evS C (.asg (.pt (.var i)) d))) → PS X (.Assign [.Name x p] (.ListComp elt gens scope pos) spos) (SS X cl (evS C (.asg (.pt (.var i)) (wz c (.ListComp elt gens scope pos) d)))) := fun q => by
    unfold wz
    split
    ·exact st_frz q
    ·exact q
   refine wrap ?_
   split at h
   ·cases h
   ·rename_i tg it ifs as gs
    split at h
    ·rename_i hcond
     obtain ⟨rfl, hset, hco⟩ := hcond
     split at h
     ·rename_i t d1 ds g y1 y2 y3 y4
      cases h
      obtain ⟨ok, oc⟩ := o.comp hco
      have ihc : ∀ cl' s₀ H₀ fp pn e d, cE n { c with names := scope.names } e = some d → Tells (X.comp scope cl' s₀ H₀ fp pn) cl C e d := fun cl' s₀ H₀ fp pn e d h => cE_ok n _ _ e d (oc cl' s₀ H₀ fp pn) h
      exact st_setC o.calm (ndX o) h1 h2 ok (cGs_head y4) (cI_ok o ih y2) (fun _ _ _ _ _ => cT_ok (oc _ _ _ _ _) n _ _ y1) (fun _ _ _ _ _ => cIfs_ok (ihc _ _ _ _ _) y3)
       (fun _ _ _ _ _ Δ => cGs_ok (oc _ _ _ _ _) rfl (ihc _ _ _ _ _) y4 fun i => by simp [Nat.add_comm]) (fun x => set_ok hset x) e h3
     ·cases h
    ·cases h
theorem cOth_ok (o : Ok X cl C c) {n : Nat} (ih : ∀ e d, cE n c e = some d → Tells X cl C e d) {tg v : Expr} {spos : Pos} {d : S} (h : cOth n c tg v = some d) : PS X (.Assign [tg] v spos) (SS X cl (evS C d)) := by
 unfold cOth at h
 split at h
 ·cases h
 ·rename_i hcond
  simp only [Bool.or_eq_true, Bool.not_eq_true', not_or, Bool.not_eq_false] at hcond
  obtain ⟨⟨c1, c2⟩, c3⟩ := hcond
  split at h
  ·rename_i t d1 y1 y2
   cases h
   exact st_asg (ih _ _ y2).1 (cA_ok o n _ _ y1) (sole_no ((Bool.not_eq_true _).mp c2)) (stores_no ((Bool.not_eq_true _).mp c1)) (by rw [asg_each c3]; rfl)
  ·cases h
theorem cAsg_ok (o : Ok X cl C c) (hsc : X.env.scope.names = c.names) (hkd : X.env.scope.kind = .function) {n : Nat} {tg v : Expr} {spos : Pos} {d : S} (h : cAsg n c tg v = some d) : PS X (.Assign [tg] v spos) (SS X cl (evS C d)) := by
 have ih : ∀ e d, cE n c e = some d → Tells X cl C e d := fun e d h => cE_ok n X c e d o h
 unfold cAsg at h
 split at h
 ·rename_i x p
  split at h
  ·rename_i i d1 y1 y2
   cases h
   obtain ⟨h1, h2, h3⟩ := tslot_ok o y1
   by_cases hc : isComp v = true
   ·obtain ⟨_, _, _, _, rfl⟩ := comp_kind hc y2
    exact set_comp o y1 y2
   ·exact st_set (ndX o) h1 h2 (ih _ _ y2).1 (swap_no ((Bool.not_eq_true _).mp hc)) h3
  ·cases h
 ·split at h
  ·rename_i d1 d2 y1 y2
   cases h
   exact st_fas (fun hx => o.fld hx) (ih _ _ y1).1 (ih _ _ y2).1 swap_at
  ·cases h
 ·
   exact cOth_ok o ih h
set_option maxHeartbeats 1000000 in
theorem cS_ok (o : Ok X cl C c) (hsc : X.env.scope.names = c.names) (hkd : X.env.scope.kind = .function) (hp : PassesOwn (model X.prog X.w) X.A X.env X.xe) : ∀ (n : Nat) (s : Stmt) (d : S), cS n c s = some d → PS X s (SS X cl (evS C d))
 | 0, _, _, h => by cases h
 | n + 1, s, d, h => by
  have ih : ∀ e d, cE n c e = some d → Tells X cl C e d := fun e d h => cE_ok n X c e d o h
  have ihs : ∀ s d, cS n c s = some d → PS X s (SS X cl (evS C d)) := fun s d h => cS_ok o hsc hkd hp n s d h
  unfold cS at h
  split at h
  ·split at h
   ·exact cAsg_ok o hsc hkd h
   ·cases h
  ·split at h
   ·cases h
   ·rename_i hc
    simp only [Option.map_eq_some_iff] at h
    obtain ⟨d1, h1, rfl⟩ := h
    exact st_expr (ih _ _ h1).1 (swap_no ((Bool.not_eq_true _).mp hc))
  ·split at h
   ·simp only [Option.map_eq_some_iff] at h
    obtain ⟨d1, h1, rfl⟩ := h
    exact st_ret (ih _ _ h1).1
   ·cases h; exact st_retN
  ·split at h
   ·rename_i d1 x y y1 y2 y3
    cases h
    exact st_if (ih _ _ y1).2 (ss_ok ihs y2) (ss_ok ihs y3)
   ·cases h
  ·split at h
   ·split at h
    ·cases h
    ·rename_i hs
     split at h
     ·rename_i t d1 x y1 y2 y3
      cases h
      exact st_for hp o.calm (cI_ok o ih y2) (cT_ok o n _ _ y1) (ss_ok ihs y3) (fun x => set_ok ((Bool.not_eq_true _).mp hs) x)
     ·cases h
   ·cases h
  ·cases h; exact st_pass
  ·cases h; exact st_brk
  ·cases h; exact st_cont
  ·cases h; exact st_never
  ·cases h
end
end D
end
section
set_option Elab.async false
set_option linter.all false
set_option maxRecDepth 100000
set_option autoImplicit false
namespace D
open PySem PySem.Spec PyProof.Rows L2
mutual
noncomputable def pureW : W → Bool
 | .tup xs => pureWs xs
 | .fz xs => pureWs xs
 | .obj _ _ vs => pureWs vs
 | .ref _ => false
 | .non => true
 | .bl _ => true
 | .int _ => true
 | .str _ => true
noncomputable def pureWs : List W → Bool
 | [] => true
 | x :: r => pureW x && pureWs r
end
mutual
noncomputable def shW (k : Nat) : W → W
 | .tup xs => .tup (shWs k xs)
 | .fz xs => .fz (shWs k xs)
 | .obj c ks vs => .obj c ks (shWs k vs)
 | .ref n => .ref (k + n)
 | .non => .non
 | .bl b => .bl b
 | .int i => .int i
 | .str x => .str x
noncomputable def shWs (k : Nat) : List W → List W
 | [] => []
 | x :: r => shW k x :: shWs k r
end
noncomputable def shFs (k : Nat) : List (Str × W) → List (Str × W)
 | [] => []
 | (f, x) :: r => (f, shW k x) :: shFs k r
noncomputable def shO (k : Nat) : O → O
 | .lst xs => .lst (shWs k xs)
 | .ins c fs => .ins c (shFs k fs)
 | .set ks => .set ks
noncomputable def callP (f : List W → Mem → R W) (ws : List W) (m : Mem) : R W :=
 if pureWs ws then match f ws [] with
  | .ok w m1 => if pureW w then .ok w m else .ok (shW m.length w) (m ++ m1.map (shO m.length))
  | .no => .no
 else f ws m
set_option genInjectivity false in
structure Pg where
 fns : List Fn
 cs : Cs
 fuel : Nat
noncomputable def runN (p : Pg) : Nat → Nat → List W → Mem → R W
 | 0, _, _, _ => .no
 | n + 1, f, ws, m => match p.fns[f]? with
  | none => .no
  | some d => if ws.length = d.np then (evSs ⟨fun f => callP (runN p n f), p.fuel, p.cs⟩ d.body (startL d.nl ws) m).bind outF else .no
theorem RW.pure {K : PySem.W.Frag} {β β' : List Addr} {H : Hp} {w : W} {v : V} (q : RW K β H w v) : pureW w = true → RW K β' H w v :=
 RW.rec (motive_1 := fun w v _ => pureW w = true → RW K β' H w v) (motive_2 := fun w v _ => pureWs w = true → RWs K β' H w v) (fun _ => .non) (fun b _ => .bl b) (fun b _ => .int b) (fun b _ => .str b) (fun h _ i e => .tup h (i e)) (fun h _ i e => .fz h (i e)) (fun h z _ i e => .obj h z (i e)) (fun q e => nomatch (show false = true from e)) (fun _ => .nil) (fun _ _ a b e => .cons (a (Bool.and_eq_true_iff.mp e).1) (b (Bool.and_eq_true_iff.mp e).2)) q
theorem RWs.pure {K : PySem.W.Frag} {β β' : List Addr} {H : Hp} {w : List W} {v : List V} (q : RWs K β H w v) (e : pureWs w = true) : RWs K β' H w v := by
 induction w generalizing v with
 | nil => cases q; exact .nil
 | cons x w ih => cases q with | cons a b => exact .cons (a.pure (Bool.and_eq_true_iff.mp e).1) (ih b (Bool.and_eq_true_iff.mp e).2)
theorem RW.shift {K : PySem.W.Frag} {β γ : List Addr} {H : Hp} {w : W} {v : V} (q : RW K γ H w v) : RW K (β ++ γ) H (shW β.length w) v :=
 RW.rec (motive_1 := fun w v _ => RW K (β ++ γ) H (shW β.length w) v) (motive_2 := fun w v _ => RWs K (β ++ γ) H (shWs β.length w) v) .non .bl .int .str (fun h _ i => .tup h i) (fun h _ i => .fz h i) (fun h e _ i => .obj h e i) (fun q => .ref (by rw [List.getElem?_append_right (by omega), Nat.add_sub_cancel_left]; exact q)) .nil (fun _ _ a b => .cons a b) q
theorem RWs.shift {K : PySem.W.Frag} {β γ : List Addr} {H : Hp} {w : List W} {v : List V} (q : RWs K γ H w v) : RWs K (β ++ γ) H (shWs β.length w) v := by
 induction w generalizing v with
 | nil => cases q; exact .nil
 | cons x w ih => cases q with | cons a b => exact .cons a.shift (ih b)
theorem RFs.shift {K : PySem.W.Frag} {β γ : List Addr} {H : Hp} {w : List (Str × W)} {v : List (Str × V)} (q : RFs K γ H w v) : RFs K (β ++ γ) H (shFs β.length w) v := by
 induction q with
 | nil => exact .nil
 | cons a b ih => exact .cons a.shift ih
theorem RO.shift {K : PySem.W.Frag} {cl : Cl} {β γ : List Addr} {H : Hp} {a : Addr} {o : O} (q : RO K cl γ H a o) : RO K cl (β ++ γ) H a (shO β.length o) := by
 cases o with
 | lst ws => obtain ⟨vs, e, t⟩ := q; exact ⟨vs, e, t.shift⟩
 | ins c fs => obtain ⟨dx, fs', e, t⟩ := q; exact ⟨dx, fs', e, t.shift⟩
 | set ks => exact q
theorem spD_callP {K : PySem.W.Frag} {cl : Cl} {np : Nat} {f : List W → Mem → R W} {vs : List V} {H : Hp} {Q : VK} {E : XK} (h : spD K cl np (callP f) vs H Q E) : spD K cl np f vs H Q E := by
 obtain ⟨hl, β, m, ws, w, m', r, t, e, k⟩ := h
 unfold callP at e
 split at e
 ·rename_i hp
  split at e
  ·rename_i w1 m1 e1
   refine ⟨hl, [], [], ws, w1, m1, ⟨rfl, List.nodup_nil, fun {n o a} h => by simp at h⟩, t.pure hp, e1, fun β' H' v x r' q => ?_⟩
   have kp : ∀ {a : Addr} {o : HO}, H a = some o → H' a = some o := fun h => x.keep h (by simp) (by simp)
   have x2 : Ext β H β H' := ⟨⟨[], by simp, by simp⟩, fun h _ _ => kp h⟩
   have r2 : Rel K cl β m H' := ⟨r.len, r.nd, fun h1 h2 => by
    have q := r.obj h1 h2
    obtain ⟨u, e, _⟩ := q.ex
    exact q.mono r x2 ((kp e).trans e.symm)⟩
   split at e
   ·rename_i hw
    cases e
    exact k β H' v x2 r2 (q.pure hw)
   ·cases e
    obtain ⟨γ, hγ, fresh⟩ := x.pre
    rw [List.nil_append] at hγ
    subst hγ
    rw [← r.len] at k
    refine k (β ++ β') H' v ⟨⟨β', rfl, fresh⟩, fun h _ _ => kp h⟩ ⟨by simp [r.len, r'.len], ?_, fun {n o a} h1 h2 => ?_⟩ q.shift
    ·rw [List.nodup_append]
     refine ⟨r.nd, r'.nd, fun a ha b hb => ?_⟩
     rintro rfl
     obtain ⟨u, e, _⟩ := r.ex ha
     rw [fresh a hb] at e; cases e
    ·by_cases hn : n < β.length
     ·rw [List.getElem?_append_left (by rw [← r.len]; exact hn)] at h1
      rw [List.getElem?_append_left hn] at h2
      exact (r2.obj h1 h2).sub fun {n a} h => by rw [List.getElem?_append_left (List.getElem?_eq_some_iff.mp h).1]; exact h
     ·rw [List.getElem?_append_right (by rw [← r.len]; omega), List.getElem?_map] at h1
      rw [List.getElem?_append_right (by omega)] at h2
      simp only [Option.map_eq_some_iff] at h1
      obtain ⟨o', h1, rfl⟩ := h1
      rw [← r.len] at h1
      exact (r'.obj h1 h2).shift
  ·cases e
 ·exact ⟨hl, β, m, ws, w, m', r, t, e, k⟩
theorem callP_ok {f : List W → Mem → R W} {ws : List W} {m m' : Mem} {w : W} (h : callP f ws m = .ok w m') : ∃ m1 w1 m2, f ws m1 = .ok w1 m2 := by
 unfold callP at h
 split at h
 ·split at h
  ·exact ⟨_, _, _, by assumption⟩
  ·cases h
 ·exact ⟨_, _, _, h⟩
section
variable {P : Program} {w : World} {K : PySem.W.Frag} {mg : Str → Option Value} {base : Heap} {fns : List (Str × (Nat × Nat))} {gl : List (Str × W)} {fz : List Pos} {p : Pg}
noncomputable def FD (K : PySem.W.Frag) (p : Pg) (fns : List (Str × (Nat × Nat))) (gl : List (Str × W)) (fz : List Pos) (i : Nat) (x : Str) (f : Addr) (fd : FuncData) (ps : List Str) : Prop :=
 ∃ (qual : Str) (st : Stmt) (N : List Str) (body : Ss), Fun K x qual st f fd ∧ FnScope N ps (defScope st) ∧ cSs (cS 60 ⟨N, (defScope st).names, fns, gl, p.cs, fz⟩) (defBody st) = some body ∧ p.fns[i]? = some ⟨ps.length, N.length, body⟩ ∧ Binds K fd ps []
structure FA (K : PySem.W.Frag) (mg : Str → Option Value) (p : Pg) (fns : List (Str × (Nat × Nat))) (gl : List (Str × W)) (fz : List Pos) : Prop where
 blt : ∀ x ∈ bnames, mg x = none
 glo : ∀ {x : Str} {w : W}, gl.lookup x = some w → ∃ u v, mg x = some u ∧ RelV v u ∧ ∀ β H, RW K β H w v
 fn : ∀ {x : Str} {i np : Nat}, fns.lookup x = some (i, np) → ∃ f fd ps, ps.length = np ∧ FD K p fns gl fz i x f fd ps ∧ mg x = some (.ref f)
 mth : ∀ {c x : Str} {i : Nat}, p.cs.mths.lookup (c, x) = some i → ∃ f fd ps, FD K p fns gl fz i x f fd ps ∧ Cls K (clsOf K c) ∧ Meth K (clsOf K c) x f
 ini : ∀ {c : Str} {i : Nat}, p.cs.ini.lookup c = some i → ∃ f fd ps, FD K p fns gl fz i "__init__" f fd ps ∧ Mk K (clsOf K c) f ∧ mg c = some (.ref (clsOf K c))
 fld : ∀ {c x : Str}, p.cs.flds.contains (c, x) = true → Cls K (clsOf K c) ∧ NoAttr K (clsOf K c) x
theorem RL.start {β : List Addr} {H : Hp} {ws : List W} {vs : List V} {N : List Str} (t : RWs K β H ws vs) : RL K β H (startL N.length ws) (L2.start N vs) := by
 refine ⟨?_, fun {i w} h => ?_⟩
 ·unfold startL L2.start
  simp [t.length]
 ·unfold startL at h
  by_cases hi : i < ws.length
  ·rw [List.getElem?_append_left (by simpa using hi), List.getElem?_map] at h
   simp only [Option.map_eq_some_iff] at h
   obtain ⟨w', h1, h2⟩ := h
   cases h2
   obtain ⟨v, e, q⟩ := t.get h1
   refine ⟨v, ?_, q⟩
   unfold L2.start
   rw [List.getElem?_append_left (by rw [List.length_map, ← t.length]; exact hi), List.getElem?_map, e]
   rfl
  ·rw [List.getElem?_append_right (by simpa using hi), List.getElem?_replicate] at h
   split at h <;> cases h
theorem sound (A0 : FA K mg p fns gl fz) : ∀ (n : Nat) {i : Nat} {x : Str} {f : Addr} {fd : FuncData} {ps : List Str}, FD K p fns gl fz i x f fd ps → FnOk P w K mg base CX0 (2 * n) f fd ps (spD K ⟨P, w⟩ ps.length (runN p n i))
 | 0, i, x, f, fd, ps, h => ⟨fun vs H Q E q => q.1, fun A outer s H args us vs Q E hr he hbb hv hs => by
   obtain ⟨_, _, _, _, _, _, _, _, e, _⟩ := hs
   cases e⟩
 | n + 1, i, x, f, fd, ps, h => by
  obtain ⟨qual, st, N, body, F, S, hb, hi, hB⟩ := h
  refine F.ok (k := 2 * n + 1) S (fun vs H Q E h => h.1) (fun cdv A outer s H vs Q E hr h => ?_)
  obtain ⟨hl, β, m, ws, wv, m', r, t, e, k⟩ := h
  have hln : ∀ {i' : Nat} {x' : Str} {f' : Addr} {fd' : FuncData} {ps' : List Str}, FD K p fns gl fz i' x' f' fd' ps' → ∀ ws m w m', callP (runN p n i') ws m = .ok w m' → ws.length = ps'.length := fun hd ws m w m' hc => by
   obtain ⟨_, _, _, _, _, _, _, hi', _⟩ := hd
   obtain ⟨m1, w1, m2, hc⟩ := callP_ok hc
   cases n with
   | zero => cases hc
   | succ n =>
    simp only [runN, hi'] at hc
    split at hc
    ·assumption
    ·cases hc
  have o : Ok (cxOf CX0 P w K mg base N qual (defScope st) f cdv A outer s H E).nox ⟨P, w⟩ ⟨fun f => callP (runN p n f), p.fuel, p.cs⟩ ⟨N, (defScope st).names, fns, gl, p.cs, fz⟩ := by
   refine ⟨rfl, S.nd, fun {x k} hk hv => ?_, fun {x k} hk hv => ?_, fun {x} hk => hk, fun {x} hk => hk, rfl, ⟨hr.units, rfl, rfl⟩, hr.hd, A0.blt, fun {x i np} hx => ?_, A0.glo, rfl, A0.fld, fun {c x i} hx => ?_, fun {c i} hx => ?_⟩
   ·rcases hv with rfl | rfl | rfl
    ·exact .inl hk
    ·exact .inr (.inl hk)
    ·exact .inr (.inr hk)
   ·rcases hv with rfl | rfl
    ·exact ⟨.inl hk, .inl rfl⟩
    ·exact ⟨.inr hk, .inl rfl⟩
   ·obtain ⟨fa, fd, ps, h1, h2, h3⟩ := A0.fn hx
    have hkp : PySem.W.keepIn K (.ref fa) = true := let ⟨_, _, _, _, F, _⟩ := h2; F.kp
    have hbd : Binds K fd ps [] := let ⟨_, _, _, _, _, _, _, _, z⟩ := h2; z
    exact ⟨2 * n, fa, fd, ps, h1, hr.mono (by omega), h3, hkp, hbd, (sound A0 n h2).imp fun _ _ _ _ => spD_callP⟩
   ·obtain ⟨fa, fd, ps, h2, h3, h4⟩ := A0.mth hx
    have hbd : Binds K fd ps [] := let ⟨_, _, _, _, _, _, _, _, z⟩ := h2; z
    exact ⟨2 * n, fa, fd, ps, hr.mono (by omega), h3, h4, hbd, (sound A0 n h2).imp fun _ _ _ _ => spD_callP, hln h2⟩
   ·obtain ⟨fa, fd, ps, h2, h3, h4⟩ := A0.ini hx
    have hbd : Binds K fd ps [] := let ⟨_, _, _, _, _, _, _, _, z⟩ := h2; z
    exact ⟨2 * n, fa, fd, ps, hr, h3, h4, hbd, (sound A0 n h2).imp fun _ _ _ _ => spD_callP, hln h2⟩
  refine ⟨_, ss_ok (fun s d h => cS_ok o rfl S.kind PassesOwn.never 60 s d h) hb, ?_⟩
  simp only [runN, hi] at e
  split at e
  ·obtain ⟨ff, m1, e1, e2⟩ := R.bind_ok e
   refine ⟨β, startL N.length ws, m, ff, m1, r, RL.start t, e1, fun β1 H1 x1 r1 => ?_⟩
   cases ff with
   | nx ρ =>
    simp only [outF] at e2
    cases e2
    exact fun σ _ => k _ _ _ x1 r1 .non
   | rt w =>
    simp only [outF] at e2
    cases e2
    exact fun v q => k _ _ _ x1 r1 q
   | bk ρ => simp only [outF] at e2; cases e2
   | ct ρ => simp only [outF] at e2; cases e2
  ·cases e
end
theorem law_walk {l : PySem.W.OpenLaw} {q : Program} {loose : List Str} {XP : (Str → Option Value) → Heap → Prop} {YP : World → Heap → Prop} {d : DefRec} {K : Params → PySem.W.Frag} {p : Pg} {i : Nat} {x : Str}
  (hn : l.most = some 63) (hdf : d.params.defaults = []) (hY : ∀ (w : World) (h : Heap), YP w h → (K w.params).In h)
  (F : ∀ (w : World) (mg : Str → Option Value) (fa : Addr) (h : Heap), (K w.params).In h → h.Ns mainGlobals mg → mg d.name = some (.ref fa) →
   ∃ fd : FuncData, (∀ (s : Shared) (u : Value), BindsTo s fd ⟨[u], []⟩ [(x, u)]) ∧
    ∀ base : Heap, (K w.params).In base → base.Ns mainGlobals mg → FnOk l.prog w (K w.params) mg base CX0 80 fa fd [x] (spD (K w.params) ⟨l.prog, w⟩ 1 (runN p 40 i)))
  (hlaw : ∀ ns : List Int, ns.length ≤ 63 → ∃ m', runN p 40 i [.fz (ns.map .int)] [] = .ok (.bl true) m') :
  PySem.W.WalkO q loose XP YP l.row.toRowW d [] (fun f vs => PySem.call f vs) := by
 refine L2.walk_of (n := 63) (k := 80) (x := x) (CX := fun _ => CX0) (sp := fun w => spD (K w.params) ⟨l.prog, w⟩ 1 (runN p 40 i)) hn (by decide) hdf ⟨rfl, by decide, by decide, rfl⟩ hY F (fun w H a ns hl hO hS => ?_) fun _ _ _ _ _ z => z
 obtain ⟨m', e⟩ := hlaw ns hl
 have sf : SqF (K w.params) H a (ns.map V.int) := by
  rcases hS with (h | ⟨o, h⟩) | h
  ·rcases hO a with z | ⟨o, xs, z⟩
   ·rw [h] at z; cases z
   ·rw [h] at z; cases z
  ·exact .inl ⟨o, h⟩
  ·exact .inr h
 have ri : ∀ ns : List Int, RWs (K w.params) [] H (ns.map W.int) (ns.map V.int) := fun ns => by
  induction ns with
  | nil => exact .nil
  | cons n r ih => exact .cons (.int n) ih
 refine ⟨rfl, [], [], [.fz (ns.map .int)], .bl true, m', ⟨rfl, List.nodup_nil, fun {n o a} h => by simp at h⟩, .cons (.fz sf (ri ns)) .nil, e, fun β' H' v _ _ q => ?_⟩
 cases q
 rfl
end D
end
section
set_option Elab.async false
set_option linter.all false
set_option maxRecDepth 100000
set_option autoImplicit false
namespace D
open PySem
theorem mem_lookup2 {α β : Type} [BEq α] [LawfulBEq α] {x : α} {b : β} {l : List (α × β)} (h : l.lookup x = some b) : (x, b) ∈ l := by
 induction l with
 | nil => simp at h
 | cons p l ih =>
  obtain ⟨y, c⟩ := p
  rw [List.lookup_cons] at h
  split at h
  ·rename_i hb
   cases h
   rw [eq_of_beq hb]
   exact List.mem_cons_self
  ·exact List.mem_cons_of_mem _ (ih h)
abbrev Cn (p : Pg) (n : Nat) : D.Cx := ⟨fun f => callP (D.runN p n f), p.fuel, p.cs⟩
section
variable {get : Mem → Nat → Nx} {t : T} {test : Loc → Mem → R Bool} {body : Loc → Mem → List W → R (List W × Loc)} {bod : Loc → Mem → R F} {k i : Nat} {ρ ρ1 ρ2 : Loc} {m m1 m2 : Mem} {acc acc2 : List W} {x w : W}
theorem compN_fin (h : get m i = .fin) : compN get t test body k i ρ m acc = .ok (acc, ρ) m := by unfold compN; rw [h]
theorem compN_it (h : get m i = .it x) (hb : bindT t x ρ = some ρ1) (ht : test ρ1 m = .ok true m1) (he : body ρ1 m1 acc = .ok (acc2, ρ2) m2) : compN get t test body (k + 1) i ρ m acc = compN get t test body k (i + 1) ρ2 m2 acc2 := by
 rw [compN, h]; simp only [hb, ht, R.bind, if_true, he]
theorem compN_skip (h : get m i = .it x) (hb : bindT t x ρ = some ρ1) (ht : test ρ1 m = .ok false m1) : compN get t test body (k + 1) i ρ m acc = compN get t test body k (i + 1) ρ1 m1 acc := by
 rw [compN, h]; simp only [hb, ht, R.bind, Bool.false_eq_true, if_false]
theorem forN_fin (h : get m i = .fin) : forN get t bod k i ρ m = .ok (.nx ρ) m := by unfold forN; rw [h]
theorem forN_nx (h : get m i = .it x) (hb : bindT t x ρ = some ρ1) (he : bod ρ1 m = .ok (.nx ρ2) m2) : forN get t bod (k + 1) i ρ m = forN get t bod k (i + 1) ρ2 m2 := by
 rw [forN, h]; simp only [hb, R.bind, he]
theorem forN_ct (h : get m i = .it x) (hb : bindT t x ρ = some ρ1) (he : bod ρ1 m = .ok (.ct ρ2) m2) : forN get t bod (k + 1) i ρ m = forN get t bod k (i + 1) ρ2 m2 := by
 rw [forN, h]; simp only [hb, R.bind, he]
theorem forN_inv {n : Nat} (I : Nat → Loc → Mem → Prop) (hs : ∀ i ρ m, i < n → I i ρ m → ∃ x ρ1 ρ2 m2, get m i = .it x ∧ bindT t x ρ = some ρ1 ∧ (bod ρ1 m = .ok (.nx ρ2) m2 ∨ bod ρ1 m = .ok (.ct ρ2) m2) ∧ I (i + 1) ρ2 m2) (hf : ∀ ρ m, I n ρ m → get m n = .fin) :
  ∀ (k i : Nat) (ρ : Loc) (m : Mem), i + k = n → I i ρ m → ∃ ρ' m', forN get t bod k i ρ m = .ok (.nx ρ') m' ∧ I n ρ' m'
 | 0, i, ρ, m, hi, h => by
  have e : i = n := by omega
  subst e
  exact ⟨ρ, m, forN_fin (hf ρ m h), h⟩
 | k + 1, i, ρ, m, hi, h => by
  obtain ⟨x, ρ1, ρ2, m2, h1, h2, h3, h4⟩ := hs i ρ m (by omega) h
  obtain ⟨ρ', m', e, h5⟩ := forN_inv I hs hf k (i + 1) ρ2 m2 (by omega) h4
  refine ⟨ρ', m', ?_, h5⟩
  rcases h3 with h3 | h3
  ·rw [forN_nx h1 h2 h3, e]
  ·rw [forN_ct h1 h2 h3, e]
theorem compN_inv {n : Nat} (I : Nat → Loc → Mem → List W → Prop)
  (hs : ∀ i ρ m acc, i < n → I i ρ m acc → ∃ x ρ1, get m i = .it x ∧ bindT t x ρ = some ρ1 ∧ ((∃ m1 acc2 ρ2 m2, test ρ1 m = .ok true m1 ∧ body ρ1 m1 acc = .ok (acc2, ρ2) m2 ∧ I (i + 1) ρ2 m2 acc2) ∨ ∃ m1, test ρ1 m = .ok false m1 ∧ I (i + 1) ρ1 m1 acc))
  (hf : ∀ ρ m acc, I n ρ m acc → get m n = .fin) :
  ∀ (k i : Nat) (ρ : Loc) (m : Mem) (acc : List W), i + k = n → I i ρ m acc → ∃ acc' ρ' m', compN get t test body k i ρ m acc = .ok (acc', ρ') m' ∧ I n ρ' m' acc'
 | 0, i, ρ, m, acc, hi, h => by
  have e : i = n := by omega
  subst e
  exact ⟨acc, ρ, m, compN_fin (hf ρ m acc h), h⟩
 | k + 1, i, ρ, m, acc, hi, h => by
  obtain ⟨x, ρ1, h1, h2, ⟨m1, acc2, ρ2, m2, h3, h4, h5⟩ | ⟨m1, h3, h5⟩⟩ := hs i ρ m acc (by omega) h
  ·obtain ⟨a', ρ', m', e, h6⟩ := compN_inv I hs hf k (i + 1) ρ2 m2 acc2 (by omega) h5
   exact ⟨a', ρ', m', by rw [compN_it h1 h2 h3 h4, e], h6⟩
  ·obtain ⟨a', ρ', m', e, h6⟩ := compN_inv I hs hf k (i + 1) ρ1 m1 acc (by omega) h5
   exact ⟨a', ρ', m', by rw [compN_skip h1 h2 h3, e], h6⟩
end
theorem seq_nx {C : Cx} {s : S} {r : Ss} {ρ ρ1 : Loc} {m m1 : Mem} (h : evS C s ρ m = .ok (.nx ρ1) m1) : evSs C (.cons s r) ρ m = evSs C r ρ1 m1 := by simp only [sSs_nil, sSs_cons, h, R.bind]
theorem seq_rt {C : Cx} {s : S} {r : Ss} {ρ : Loc} {m m1 : Mem} {w : W} (h : evS C s ρ m = .ok (.rt w) m1) : evSs C (.cons s r) ρ m = .ok (.rt w) m1 := by simp only [sSs_nil, sSs_cons, h, R.bind]
theorem run_rt {p : Pg} {n f : Nat} {ws : List W} {m m1 : Mem} {w : W} {d : Fn} (hd : p.fns[f]? = some d) (hl : ws.length = d.np) (h : evSs (Cn p n) d.body (startL d.nl ws) m = .ok (.rt w) m1) : D.runN p (n + 1) f ws m = .ok w m1 := by
 rw [D.runN, hd]; simp only [hl, if_true, h, R.bind, outF]
theorem run_nx {p : Pg} {n f : Nat} {ws : List W} {m m1 : Mem} {ρ : Loc} {d : Fn} (hd : p.fns[f]? = some d) (hl : ws.length = d.np) (h : evSs (Cn p n) d.body (startL d.nl ws) m = .ok (.nx ρ) m1) : D.runN p (n + 1) f ws m = .ok .non m1 := by
 rw [D.runN, hd]; simp only [hl, if_true, h, R.bind, outF]
theorem asg_ok {C : Cx} {i : Nat} {e : E} {ρ : Loc} {m m1 : Mem} {w : W} (h : evE C e ρ m = .ok w m1) : evS C (.asg (.pt (.var i)) e) ρ m = .ok (.nx (ρ.set i (some w))) m1 := by simp only [sS_asg, sS_expr, sS_ret, sS_retN, sS_ife, sS_for_, sS_pass, sS_brk, sS_cont, sS_never, sS_fas, h, R.bind, sA_pt, sA_sub, sA_tup, bindT]
theorem asg_to {C : Cx} {i : Nat} {e : E} {ρ ρ1 : Loc} {m m1 : Mem} {w : W} (h : evE C e ρ m = .ok w m1) (hs : ρ.set i (some w) = ρ1) : evS C (.asg (.pt (.var i)) e) ρ m = .ok (.nx ρ1) m1 := by rw [asg_ok h, hs]
theorem notin_take {α : Type} {xs : List α} {i : Nat} (h : xs.Nodup) (hi : i < xs.length) : xs[i] ∉ xs.take i := fun hm => by
 rw [← List.take_append_drop i xs] at h
 exact (List.nodup_append.mp h).2.2 _ hm _ (List.mem_of_getElem? (i := 0) (by rw [List.getElem?_drop, Nat.add_zero, List.getElem?_eq_getElem hi])) rfl
theorem ret_ok {C : Cx} {e : E} {ρ : Loc} {m m1 : Mem} {w : W} (h : evE C e ρ m = .ok w m1) : evS C (.ret e) ρ m = .ok (.rt w) m1 := by simp only [sS_asg, sS_expr, sS_ret, sS_retN, sS_ife, sS_for_, sS_pass, sS_brk, sS_cont, sS_never, sS_fas, h, R.bind]
theorem expr_ok {C : Cx} {e : E} {ρ : Loc} {m m1 : Mem} {w : W} (h : evE C e ρ m = .ok w m1) : evS C (.expr e) ρ m = .ok (.nx ρ) m1 := by simp only [sS_asg, sS_expr, sS_ret, sS_retN, sS_ife, sS_for_, sS_pass, sS_brk, sS_cont, sS_never, sS_fas, h, R.bind]
theorem fas_ok {C : Cx} {o e : E} {f : Str} {ρ : Loc} {m m1 m2 m3 : Mem} {w x : W} (h : evE C e ρ m = .ok w m1) (h2 : evE C o ρ m1 = .ok x m2) (h3 : fasop C.cs x f w m2 = .ok () m3) : evS C (.fas o f e) ρ m = .ok (.nx ρ) m3 := by simp only [sS_asg, sS_expr, sS_ret, sS_retN, sS_ife, sS_for_, sS_pass, sS_brk, sS_cont, sS_never, sS_fas, h, h2, h3, R.bind]
theorem if_t {C : Cx} {t : E} {a b : Ss} {ρ : Loc} {m m1 : Mem} (h : evT C t ρ m = .ok true m1) : evS C (.ife t a b) ρ m = evSs C a ρ m1 := by simp only [sS_asg, sS_expr, sS_ret, sS_retN, sS_ife, sS_for_, sS_pass, sS_brk, sS_cont, sS_never, sS_fas, h, R.bind, if_true]
theorem if_f {C : Cx} {t : E} {a b : Ss} {ρ : Loc} {m m1 : Mem} (h : evT C t ρ m = .ok false m1) : evS C (.ife t a b) ρ m = evSs C b ρ m1 := by simp only [sS_asg, sS_expr, sS_ret, sS_retN, sS_ife, sS_for_, sS_pass, sS_brk, sS_cont, sS_never, sS_fas, h, R.bind, Bool.false_eq_true, if_false]
theorem ss_nil' {C : Cx} {ρ : Loc} {m : Mem} : evSs C .nil ρ m = .ok (.nx ρ) m := by simp only [sSs_nil, sSs_cons]
theorem for_ok {C : Cx} {t : T} {it : E} {b : Ss} {ρ : Loc} {m m1 m2 : Mem} {s : Src} {f : F} (h : evI C it ρ m = .ok s m1) (h2 : forN s.get t (fun ρ m => evSs C b ρ m) (s.len m1) 0 ρ m1 = .ok f m2) : evS C (.for_ t it b) ρ m = .ok f m2 := by simp only [sS_asg, sS_expr, sS_ret, sS_retN, sS_ife, sS_for_, sS_pass, sS_brk, sS_cont, sS_never, sS_fas, h, R.bind, h2]
theorem for_inv {C : Cx} {t : T} {it : E} {b : Ss} {ρ : Loc} {m m1 : Mem} {s : Src} {n : Nat} (hI : evI C it ρ m = .ok s m1) (hn : s.len m1 = n) (I : Nat → Loc → Mem → Prop) (h0 : I 0 ρ m1)
  (hs : ∀ i ρ m, i < n → I i ρ m → ∃ x ρ1 ρ2 m2, s.get m i = .it x ∧ bindT t x ρ = some ρ1 ∧ (evSs C b ρ1 m = .ok (.nx ρ2) m2 ∨ evSs C b ρ1 m = .ok (.ct ρ2) m2) ∧ I (i + 1) ρ2 m2) (hf : ∀ ρ m, I n ρ m → s.get m n = .fin) :
  ∃ ρ' m', evS C (.for_ t it b) ρ m = .ok (.nx ρ') m' ∧ I n ρ' m' := by
 obtain ⟨ρ', m', h1, h2⟩ := forN_inv (get := s.get) (t := t) (bod := fun ρ m => evSs C b ρ m) I hs hf n 0 ρ m1 (by omega) h0
 exact ⟨ρ', m', for_ok hI (by rw [hn]; exact h1), h2⟩
theorem comp_ok {C : Cx} {t : T} {js : List Nat} {it : E} {ifs : Es} {g : G} {ρ ρ' : Loc} {m m1 m2 : Mem} {s : Src} {ws : List W} (h : evI C it ρ m = .ok s m1) (h2 : compN s.get t (fun ρ m => evIfs C ifs ρ m) (fun ρ m acc => evG C g ρ m acc) (s.len m1) 0 (clr js ρ) m1 [] = .ok (ws, ρ') m2) : evE C (.comp (.gen t js it ifs g)) ρ m = .ok (.ref m2.length) (m2 ++ [.lst ws]) := by
 simp only [sE_var, sE_cst, sE_bin, sE_neg, sE_not, sE_and, sE_or, sE_cmp, sE_chain, sE_ife, sE_tup, sE_lst, sE_idx, sE_slc, sE_call, sE_blt, sE_isI, sE_meth, sE_comp, sE_lrng, sE_frz, sE_fld, sE_make, sE_mth, sE_set0, sE_sset, sG_elt, sG_gen, h, R.bind, h2, new]
theorem rngI {C : Cx} {e : E} {ρ : Loc} {m m1 : Mem} {n : Nat} (he : evE C e ρ m = .ok (.int n) m1) (h : -(2 ^ 62) ≤ (n : Int) ∧ (n : Int) < 2 ^ 62) : evI C (.rng e) ρ m = .ok (.rng 0 n) m1 := by
 simp only [sI_rng, sI_enm, sI_var, sI_cst, sI_bin, sI_neg, sI_not, sI_and, sI_or, sI_cmp, sI_chain, sI_ife, sI_tup, sI_lst, sI_idx, sI_slc, sI_call, sI_blt, sI_isI, sI_meth, sI_comp, sI_lrng, sI_frz, sI_fld, sI_make, sI_mth, sI_set0, sI_sset, he, R.bind]
 rw [if_pos h, Int.toNat_natCast]
theorem get_rng_it {lo : Int} {n i : Nat} {m : Mem} (h : i < n) : Src.get (.rng lo n) m i = .it (.int (lo + i)) := by simp only [Src.get, h, if_true]
theorem get_rng_fin {lo : Int} {n i : Nat} {m : Mem} (h : ¬ i < n) : Src.get (.rng lo n) m i = .fin := by simp only [Src.get, h, if_false]
theorem get_tup_it {xs : List W} {i : Nat} {m : Mem} (h : i < xs.length) : Src.get (.tup xs) m i = .it xs[i] := by simp only [Src.get, List.getElem?_eq_getElem h]
theorem get_tup_fin {xs : List W} {i : Nat} {m : Mem} (h : ¬ i < xs.length) : Src.get (.tup xs) m i = .fin := by simp only [Src.get, List.getElem?_eq_none (Nat.le_of_not_lt h)]
theorem get_enm_it {s : Src} {i : Nat} {m : Mem} {w : W} (h : s.get m i = .it w) : Src.get (.enm s) m i = .it (.tup [.int i, w]) := by simp only [Src.get, h]
theorem get_enm_fin {s : Src} {i : Nat} {m : Mem} (h : s.get m i = .fin) : Src.get (.enm s) m i = .fin := by simp only [Src.get, h]
theorem get_lst {n : Nat} {xs : List W} {m : Mem} (h : m[n]? = some (.lst xs)) (i : Nat) : Src.get (.lst n) m i = Src.get (.tup xs) m i := by simp only [Src.get, getL, h]
theorem pureI : ∀ ns : List Int, pureWs (ns.map W.int) = true
 | [] => rfl
 | n :: r => by simp [pureWs, pureW, pureI r]
theorem pureS : ∀ ns : List Str, pureWs (ns.map W.str) = true
 | [] => rfl
 | n :: r => by simp [pureWs, pureW, pureS r]
theorem pureWs_all : ∀ {xs : List W}, pureWs xs = true ↔ ∀ x ∈ xs, pureW x = true
 | [] => by simp [pureWs]
 | x :: r => by simp [pureWs, pureWs_all (xs := r)]
theorem pureM {α : Type} {f : α → W} (h : ∀ a, pureW (f a) = true) (xs : List α) : pureWs (xs.map f) = true := pureWs_all.mpr fun x hx => by
 obtain ⟨a, _, rfl⟩ := List.mem_map.mp hx
 exact h a
theorem pureA {xs ys : List W} : pureWs (xs ++ ys) = (pureWs xs && pureWs ys) := by
 induction xs with
 | nil => simp [pureWs]
 | cons x r ih => simp [pureWs, ih, Bool.and_assoc]
mutual
theorem frW_pure (g : Nat → Option W) : ∀ {w : W}, pureW w = true → frW g w = some w
 | .non, _ => rfl
 | .bl _, _ => rfl
 | .int _, _ => rfl
 | .str _, _ => rfl
 | .tup xs, h => by simp only [frW, frWs_pure g (by simpa only [pureW] using h : pureWs xs = true)]; rfl
 | .fz xs, h => by simp only [frW, frWs_pure g (by simpa only [pureW] using h : pureWs xs = true)]; rfl
 | .obj c ks vs, h => by simp only [frW, frWs_pure g (by simpa only [pureW] using h : pureWs vs = true)]; rfl
 | .ref _, h => by simp [pureW] at h
theorem frWs_pure (g : Nat → Option W) : ∀ {w : List W}, pureWs w = true → frWs g w = some w
 | [], _ => rfl
 | x :: r, h => by
  simp only [pureWs, Bool.and_eq_true] at h
  simp only [frWs, frW_pure g h.1, frWs_pure g h.2]
end
theorem bel_pure (k : Nat) {w : W} : pureW w = true → belW k w = true :=
 W.rec (motive_1 := fun w => pureW w = true → belW k w = true) (motive_2 := fun w => pureWs w = true → belWs k w = true) (fun _ => rfl) (fun _ _ => rfl) (fun _ _ => rfl) (fun _ _ => rfl) (fun _ i e => i e) (fun _ i e => i e) (fun _ _ _ i e => i e) (fun _ e => nomatch (show false = true from e)) (fun _ => rfl) (fun _ _ a b e => Bool.and_eq_true_iff.mpr ⟨a (Bool.and_eq_true_iff.mp e).1, b (Bool.and_eq_true_iff.mp e).2⟩) w
theorem bels_pure (k : Nat) {w : List W} (e : pureWs w = true) : belWs k w = true := by
 induction w with
 | nil => rfl
 | cons x r ih => exact Bool.and_eq_true_iff.mpr ⟨bel_pure k (Bool.and_eq_true_iff.mp e).1, ih (Bool.and_eq_true_iff.mp e).2⟩
theorem bel_mono {k l : Nat} (hkl : k ≤ l) {w : W} : belW k w = true → belW l w = true :=
 W.rec (motive_1 := fun w => belW k w = true → belW l w = true) (motive_2 := fun w => belWs k w = true → belWs l w = true) (fun _ => rfl) (fun _ _ => rfl) (fun _ _ => rfl) (fun _ _ => rfl) (fun _ i e => i e) (fun _ i e => i e) (fun _ _ _ i e => i e) (fun _ e => decide_eq_true (Nat.lt_of_lt_of_le (of_decide_eq_true e) hkl)) (fun _ => rfl) (fun _ _ a b e => Bool.and_eq_true_iff.mpr ⟨a (Bool.and_eq_true_iff.mp e).1, b (Bool.and_eq_true_iff.mp e).2⟩) w
theorem bels_mono {k l : Nat} (hkl : k ≤ l) {w : List W} (e : belWs k w = true) : belWs l w = true := by
 induction w with
 | nil => rfl
 | cons x r ih => exact Bool.and_eq_true_iff.mpr ⟨bel_mono hkl (Bool.and_eq_true_iff.mp e).1, ih (Bool.and_eq_true_iff.mp e).2⟩
theorem belO_mono {k l : Nat} (hkl : k ≤ l) {o : O} (h : belO k o = true) : belO l o = true := by
 cases o with
 | lst xs => exact bels_mono hkl h
 | ins c fs => exact bels_mono hkl h
 | set ks => rfl
noncomputable def Cm (m : Mem) : Prop := belM m.length m = true
theorem Cm.nil : Cm [] := rfl
theorem belM_all {k : Nat} {m : Mem} : belM k m = true ↔ ∀ o ∈ m, belO k o = true := by simp [belM, List.all_eq_true]
theorem Cm.set {m : Mem} {p : Nat} {o : O} (h : Cm m) (ho : belO m.length o = true) : Cm (m.set p o) := by
 unfold Cm at h ⊢
 rw [List.length_set, belM_all] at *
 intro x hx
 rcases List.mem_or_eq_of_mem_set hx with hx | rfl
 ·exact h x hx
 ·exact ho
theorem Cm.app {m l : Mem} (h : Cm m) (hl : ∀ o ∈ l, belO (m.length + l.length) o = true) : Cm (m ++ l) := by
 unfold Cm at h ⊢
 rw [belM_all] at *
 intro x hx
 rw [List.length_append]
 rcases List.mem_append.mp hx with hx | hx
 ·exact belO_mono (by omega) (h x hx)
 ·exact hl x hx
theorem Cm.push {m : Mem} {o : O} (h : Cm m) (ho : belO m.length o = true) : Cm (m ++ [o]) := h.app fun x hx => by
 rw [List.mem_singleton] at hx
 subst hx
 exact belO_mono (by simp) ho
theorem frz_ok {C : Cx} {e : E} {ρ : Loc} {m m0 l : Mem} {w w1 : W} (h : evE C e ρ m = .ok w (m0 ++ l)) (hl : m0.length = m.length) (hm : Cm m0) (hw : frW (frG (m0 ++ l) m0.length 8) w = some w1) : evE C (.frz e) ρ m = .ok w1 m0 := by
 have ht : (m0 ++ l).take m.length = m0 := by rw [← hl, List.take_left']; rfl
 have hc : m.length ≤ (m0 ++ l).length ∧ belM m.length ((m0 ++ l).take m.length) = true := ⟨by rw [List.length_append]; omega, by rw [ht, ← hl]; exact hm⟩
 simp only [sE_var, sE_cst, sE_bin, sE_neg, sE_not, sE_and, sE_or, sE_cmp, sE_chain, sE_ife, sE_tup, sE_lst, sE_idx, sE_slc, sE_call, sE_blt, sE_isI, sE_meth, sE_comp, sE_lrng, sE_frz, sE_fld, sE_make, sE_mth, sE_set0, sE_sset, h, frzR]
 rw [if_pos hc, ← hl, hw]
 simp only [hl, ht]
theorem frz_lst {C : Cx} {e : E} {ρ : Loc} {m m0 l : Mem} {xs : List W} {j : Nat} (h : evE C e ρ m = .ok (.ref j) (m0 ++ l)) (hl : m0.length = m.length) (hm : Cm m0) (hj : m0.length ≤ j) (hx : (m0 ++ l)[j]? = some (.lst xs)) (hp : pureWs xs = true) : evE C (.frz e) ρ m = .ok (.fz xs) m0 := by
 refine frz_ok h hl hm ?_
 simp only [frW, frG, hx, frWs_pure _ hp, Option.map_some]
 rw [if_neg (by omega)]
theorem frz_new {C : Cx} {e : E} {ρ : Loc} {m m0 : Mem} {xs : List W} (h : evE C e ρ m = .ok (.ref m0.length) (m0 ++ [.lst xs])) (hl : m0.length = m.length) (hm : Cm m0) (hp : pureWs xs = true) : evE C (.frz e) ρ m = .ok (.fz xs) m0 :=
 frz_lst h hl hm (Nat.le_refl _) (by simp) hp
theorem frz_val {C : Cx} {e : E} {ρ : Loc} {m m0 : Mem} {w : W} (h : evE C e ρ m = .ok w m0) (hl : m0.length = m.length) (hm : Cm m0) (hp : pureW w = true) : evE C (.frz e) ρ m = .ok w m0 :=
 frz_ok (l := []) (by rw [List.append_nil]; exact h) hl hm (frW_pure _ hp)
theorem callP_imp {f : List W → Mem → R W} {ws : List W} {m : Mem} (h : pureWs ws = false) : callP f ws m = f ws m := by simp [callP, h]
theorem callP_pure {f : List W → Mem → R W} {ws : List W} {m m1 : Mem} {w : W} (h : pureWs ws = true) (e : f ws [] = .ok w m1) (hw : pureW w = true) : callP f ws m = .ok w m := by simp [callP, h, e, hw]
theorem callP_ref {f : List W → Mem → R W} {ws : List W} {m m1 : Mem} {w : W} (h : pureWs ws = true) (e : f ws [] = .ok w m1) (hw : pureW w = false) : callP f ws m = .ok (shW m.length w) (m ++ m1.map (shO m.length)) := by simp [callP, h, e, hw]
theorem set_same {m : Mem} {p : Nat} {o : O} (h : m[p]? = some o) : m.set p o = m := by
 apply List.ext_getElem?
 intro j
 by_cases e : p = j
 ·subst e
  rw [List.getElem?_set_self (List.getElem?_eq_some_iff.mp h).1, h]
 ·rw [List.getElem?_set_ne e]
theorem filterT {α : Type} (l : List α) : l.filter (fun _ => true) = l := List.filter_eq_self.mpr fun _ _ => rfl
theorem comp_fm {C : Cx} {get : Mem → Nat → Nx} {t : T} {ifs : Es} {e : E} {ρ : Loc} {m : Mem} {xs : List W} {B : W → Loc} {p : W → Bool} {g : W → W} (hget : ∀ j (h : j < xs.length), get m j = .it xs[j]) (hfin : get m xs.length = .fin)
  (h0 : ∀ x ∈ xs, bindT t x ρ = some (B x)) (h1 : ∀ x ∈ xs, ∀ y ∈ xs, bindT t y (B x) = some (B y)) (ht : ∀ x ∈ xs, evIfs C ifs (B x) m = .ok (p x) m) (he : ∀ x ∈ xs, p x = true → evE C e (B x) m = .ok (g x) m) (hl : xs.length ≤ lim) :
  ∃ ρ', compN get t (fun ρ m => evIfs C ifs ρ m) (fun ρ m acc => evG C (.elt e) ρ m acc) xs.length 0 ρ m [] = .ok ((xs.filter p).map g, ρ') m := by
 obtain ⟨acc, ρ', m', e1, h4, h2, h3⟩ := compN_inv (get := get) (t := t) (test := fun ρ m => evIfs C ifs ρ m) (body := fun ρ m acc => evG C (.elt e) ρ m acc) (n := xs.length)
  (fun j ρ1 m1 acc => (∀ x ∈ xs, bindT t x ρ1 = some (B x)) ∧ m1 = m ∧ acc = ((xs.take j).filter p).map g) (fun j ρ1 m1 acc hj => by
   rintro ⟨hb, rfl, rfl⟩
   have hx := List.getElem_mem hj
   have htk : xs.take (j + 1) = xs.take j ++ [xs[j]] := by rw [List.take_add_one, List.getElem?_eq_getElem hj]; rfl
   refine ⟨xs[j], B xs[j], hget j hj, hb _ hx, ?_⟩
   have h5 := ht _ hx
   cases hp : p xs[j] with
   | true =>
    rw [hp] at h5
    refine .inl ⟨m1, ((xs.take (j + 1)).filter p).map g, B xs[j], m1, h5, ?_, h1 _ hx, rfl, rfl⟩
    have hlt : (((xs.take j).filter p).map g).length < lim := by
     rw [List.length_map]
     have := List.length_filter_le p (xs.take j)
     rw [List.length_take] at this
     omega
    simp only [sG_elt, sG_gen, he _ hx hp, R.bind]
    rw [if_pos hlt, htk, List.filter_append, List.map_append]
    simp [hp]
   | false =>
    rw [hp] at h5
    refine .inr ⟨m1, h5, h1 _ hx, rfl, ?_⟩
    rw [htk, List.filter_append]
    simp [hp]) (fun ρ1 m1 acc h => by rw [h.2.1]; exact hfin) xs.length 0 ρ m [] (by omega) ⟨h0, rfl, by simp⟩
 subst h2 h3
 exact ⟨ρ', by rw [e1, List.take_length]⟩
theorem comp_map {C : Cx} {i : Nat} {e : E} {ρ : Loc} {m : Mem} {xs : List W} {g : W → W} (h : ∀ x ∈ xs, evE C e (ρ.set i (some x)) m = .ok (g x) m) (hl : xs.length ≤ lim) :
  ∃ ρ', compN (Src.get (.tup xs)) (.var i) (fun ρ m => evIfs C .nil ρ m) (fun ρ m acc => evG C (.elt e) ρ m acc) xs.length 0 ρ m [] = .ok (xs.map g, ρ') m := by
 obtain ⟨ρ', h'⟩ := comp_fm (C := C) (get := Src.get (.tup xs)) (t := .var i) (ifs := .nil) (e := e) (ρ := ρ) (m := m) (xs := xs) (B := fun x => ρ.set i (some x)) (p := fun _ => true) (g := g) (fun j hj => get_tup_it hj) (get_tup_fin (by omega)) (fun x _ => by simp only [bindT]) (fun x _ y _ => by simp only [bindT, List.set_set]) (fun x _ => by simp only [sIfs_nil, sIfs_cons]) (fun x hx _ => h x hx) hl
 rw [filterT] at h'
 exact ⟨ρ', h'⟩
theorem E_var {C : Cx} {ρ : Loc} {m : Mem} (i : Nat) : evE C (.var i) ρ m = (match ρ[i]? with
   | some (some w) => .ok w m
   | _ => .no) := by rfl
theorem E_cst {C : Cx} {ρ : Loc} {m : Mem} (w : W) : evE C (.cst w) ρ m = (.ok w m) := by rfl
theorem E_bin {C : Cx} {ρ : Loc} {m : Mem} (op : Operator) (a b : E) : evE C (.bin op a b) ρ m = ((evE C a ρ m).bind fun x m => (evE C b ρ m).bind fun y m => binop op x y m) := by rfl
theorem E_not {C : Cx} {ρ : Loc} {m : Mem} (a : E) : evE C (.not a) ρ m = ((evE C a ρ m).bind fun x m => match x with
   | .bl b => .ok (.bl (!b)) m
   | _ => .no) := by rfl
theorem E_and {C : Cx} {ρ : Loc} {m : Mem} (a b : E) : evE C (.and a b) ρ m = ((evE C a ρ m).bind fun x m => match x with
   | .bl c => if c then evE C b ρ m else .ok (.bl false) m
   | _ => .no) := by rfl
theorem E_cmp {C : Cx} {ρ : Loc} {m : Mem} (op : CmpOp) (a b : E) : evE C (.cmp op a b) ρ m = ((evE C a ρ m).bind fun x m => (evE C b ρ m).bind fun y m => (cmpop op x y m).bind fun c m => .ok (.bl c) m) := by rfl
theorem E_chain {C : Cx} {ρ : Loc} {m : Mem} (o1 o2 : CmpOp) (a b c : E) : evE C (.chain o1 o2 a b c) ρ m = ((evE C a ρ m).bind fun x m => (evE C b ρ m).bind fun y m => (cmpop o1 x y m).bind fun k m =>
    if k then (evE C c ρ m).bind fun z m => (cmpop o2 y z m).bind fun k m => .ok (.bl k) m else .ok (.bl false) m) := by rfl
theorem E_ife {C : Cx} {ρ : Loc} {m : Mem} (t a b : E) : evE C (.ife t a b) ρ m = ((evT C t ρ m).bind fun c m => if c then evE C a ρ m else evE C b ρ m) := by rfl
theorem E_tup {C : Cx} {ρ : Loc} {m : Mem} (es : Es) : evE C (.tup es) ρ m = ((evEs C es ρ m).bind fun ws m => if ws.length ≤ lim then .ok (.tup ws) m else .no) := by rfl
theorem E_lst {C : Cx} {ρ : Loc} {m : Mem} (es : Es) : evE C (.lst es) ρ m = ((evEs C es ρ m).bind fun ws m => if ws.length ≤ lim then new (.lst ws) m else .no) := by rfl
theorem E_idx {C : Cx} {ρ : Loc} {m : Mem} (a b : E) : evE C (.idx a b) ρ m = ((evE C a ρ m).bind fun x m => (evE C b ρ m).bind fun y m => idxop x y m) := by rfl
theorem E_slc {C : Cx} {ρ : Loc} {m : Mem} (a : E) (lo hi : Oe) : evE C (.slc a lo hi) ρ m = ((evE C a ρ m).bind fun x m => (evO C lo ρ m).bind fun l m => (evO C hi ρ m).bind fun u m => slcop x l u m) := by rfl
theorem T_call {C : Cx} {ρ : Loc} {m : Mem} (f : Nat) (es : Es) : evT C (.call f es) ρ m = (evE C (.call f es) ρ m).bind fun w m => D.truthy m w := by rfl
theorem E_blt {C : Cx} {ρ : Loc} {m : Mem} (b : B) (es : Es) : evE C (.blt b es) ρ m = ((evEs C es ρ m).bind fun ws m => bltop b ws m) := by rfl
theorem T_blt {C : Cx} {ρ : Loc} {m : Mem} (b : B) (es : Es) : evT C (.blt b es) ρ m = (evE C (.blt b es) ρ m).bind fun w m => D.truthy m w := by rfl
theorem E_isI {C : Cx} {ρ : Loc} {m : Mem} (a : E) (t : String) : evE C (.isI a t) ρ m = ((evE C a ρ m).bind fun x m => match isTy m t x with
   | some b => .ok (.bl b) m
   | none => .no) := by rfl
theorem T_isI {C : Cx} {ρ : Loc} {m : Mem} (a : E) (t : String) : evT C (.isI a t) ρ m = (evE C (.isI a t) ρ m).bind fun w m => D.truthy m w := by rfl
theorem E_meth {C : Cx} {ρ : Loc} {m : Mem} (o : E) (name : String) (es : Es) : evE C (.meth o name es) ρ m = ((evE C o ρ m).bind fun x m => if kdOf m x = kdM name then (evEs C es ρ m).bind fun ws m => methop x name ws m else .no) := by rfl
theorem E_make {C : Cx} {ρ : Loc} {m : Mem} (c : Str) (es : Es) : evE C (.make c es) ρ m = ((evEs C es ρ m).bind fun ws m => makeop C c ws m) := by rfl
theorem E_set0 {C : Cx} {ρ : Loc} {m : Mem}  : evE C (.set0) ρ m = (new (.set []) m) := by rfl
theorem T_or {C : Cx} {ρ : Loc} {m : Mem} (a b : E) : evT C (.or a b) ρ m = ((evT C a ρ m).bind fun c m => if c then .ok true m else evT C b ρ m) := by rfl
theorem T_not {C : Cx} {ρ : Loc} {m : Mem} (a : E) : evT C (.not a) ρ m = ((evT C a ρ m).bind fun c m => .ok (!c) m) := by rfl
theorem T_cmp {C : Cx} {ρ : Loc} {m : Mem} (op : CmpOp) (a b : E) : evT C (.cmp op a b) ρ m = ((evE C a ρ m).bind fun x m => (evE C b ρ m).bind fun y m => cmpop op x y m) := by rfl
theorem T_chain {C : Cx} {ρ : Loc} {m : Mem} (o1 o2 : CmpOp) (a b c : E) : evT C (.chain o1 o2 a b c) ρ m = ((evE C a ρ m).bind fun x m => (evE C b ρ m).bind fun y m => (cmpop o1 x y m).bind fun k m =>
   if k then (evE C c ρ m).bind fun z m => cmpop o2 y z m else .ok false m) := by rfl
theorem Es_nil {C : Cx} {ρ : Loc} {m : Mem} : evEs C .nil ρ m = .ok [] m := by rfl
theorem Es_cons {C : Cx} {ρ : Loc} {m : Mem} (e : E) (es : Es) : evEs C (.cons e es) ρ m = ((evE C e ρ m).bind fun w m => (evEs C es ρ m).bind fun ws m => .ok (w :: ws) m) := by rfl
theorem O_none {C : Cx} {ρ : Loc} {m : Mem} : evO C .none ρ m = .ok none m := by rfl
theorem O_some {C : Cx} {ρ : Loc} {m : Mem} (e : E) : evO C (.some e) ρ m = ((evE C e ρ m).bind fun w m => match w with
   | .int i => .ok (some i) m
   | _ => .no) := by rfl
theorem B_ok {α β : Type} {a : α} {m : Mem} {f : α → Mem → R β} : (R.ok a m).bind f = f a m := Eq.trans rfl rfl
theorem I_var {C : Cx} {ρ : Loc} {m : Mem} (i : Nat) : evI C (.var i) ρ m = (evE C (.var i) ρ m).bind toI := by rfl
theorem I_idx {C : Cx} {ρ : Loc} {m : Mem} (a b : E) : evI C (.idx a b) ρ m = (evE C (.idx a b) ρ m).bind toI := by rfl
theorem I_slc {C : Cx} {ρ : Loc} {m : Mem} (a : E) (lo hi : Oe) : evI C (.slc a lo hi) ρ m = (evE C (.slc a lo hi) ρ m).bind toI := by rfl
theorem bools_true : ∀ n : Nat, bools (List.replicate n (W.bl true)) = some (List.replicate n true)
 | 0 => rfl
 | n + 1 => by simp [List.replicate_succ, bools, bools_true n]
theorem all_true (n : Nat) : (List.replicate n true).all id = true := by simp
theorem map_rep {α : Type} (xs : List α) (w : W) : (xs.map fun _ => w) = List.replicate xs.length w := List.map_const' ..
theorem src_getS {m : Mem} {w : W} {xs : List W} (h : getS m w = some xs) : ∃ s, srcOf m w = some s ∧ (∀ i, s.get m i = Src.get (.tup xs) m i) ∧ s.len m = xs.length := by
 cases w with
 | tup ys => simp only [getS] at h; cases h; exact ⟨.tup xs, rfl, fun _ => rfl, rfl⟩
 | fz ys => simp only [getS, getL] at h; cases h; exact ⟨.tup xs, rfl, fun _ => rfl, rfl⟩
 | ref n =>
  simp only [getS, getL] at h
  split at h
  ·rename_i ys e
   cases h
   exact ⟨.lst n, by simp [srcOf, getL, e], fun i => get_lst e i, by simp [Src.len, getL, e]⟩
  ·cases h
 | _ => simp [getS, getL] at h
theorem getL_S {m : Mem} {w : W} {xs : List W} (h : getL m w = some xs) : getS m w = some xs := by
 cases w with
 | tup ys => cases h
 | _ => exact h
theorem callP_inv {f : List W → Mem → R W} {ws : List W} {m : Mem} {r : W} (hm : f ws m = .ok r m) (h0 : pureWs ws = true → f ws [] = .ok r []) (hr : pureW r = true) : callP f ws m = .ok r m := by
 cases h : pureWs ws with
 | true => exact callP_pure h (h0 h) hr
 | false => rw [callP_imp h, hm]
theorem getL_pure {m : Mem} {w : W} (h : pureW w = true) : getL [] w = getL m w := by
 cases w with
 | ref n => simp [pureW] at h
 | _ => rfl
theorem getS_pure {m : Mem} {w : W} (h : pureW w = true) : getS [] w = getS m w := by
 cases w with
 | ref n => simp [pureW] at h
 | _ => rfl
theorem len_of {m : Mem} {w : W} {xs : List W} (h : getS m w = some xs) : bltop .len [w] m = .ok (.int xs.length) m := by
 cases w with
 | str z => simp [getS, getL] at h
 | _ => simp only [bltop, h]
theorem atI_nat {α : Type} {xs : List α} {i : Nat} (h : i < xs.length) : L2.atI xs (i : Int) = some xs[i] := by
 have h1 : (0 : Int) ≤ i := by omega
 have h2 : (i : Int) < xs.length := by omega
 simp only [L2.atI, L2.ixN, h1, h2, if_true, Option.bind_some, Int.toNat_natCast, List.getElem?_eq_getElem h]
theorem idx_of {m : Mem} {w : W} {xs : List W} {i : Nat} (h : getS m w = some xs) (hi : i < xs.length) : idxop w (.int i) m = .ok xs[i] m := by
 cases w with
 | str z => simp [getS, getL] at h
 | _ => simp only [idxop, h, atI_nat hi]
theorem toI_of {m : Mem} {w : W} {xs : List W} (h : getS m w = some xs) : ∃ s, toI w m = .ok s m ∧ (∀ i, s.get m i = Src.get (.tup xs) m i) ∧ s.len m = xs.length := by
 obtain ⟨s, h1, h2, h3⟩ := src_getS h
 refine ⟨s, ?_, h2, h3⟩
 have : srcT m w = some s := by
  cases w with
  | str z => simp [getS, getL] at h
  | _ => exact h1
 simp only [toI, this]
theorem getS_set {m : Mem} {w : W} {xs : List W} {l : Mem} (h : getS m w = some xs) : getS (m ++ l) w = some xs := by
 cases w with
 | ref n =>
  simp only [getS, getL] at h ⊢
  split at h
  ·rename_i ys e
   rw [List.getElem?_append_left (List.getElem?_eq_some_iff.mp e).1, e]
   exact h
  ·cases h
 | _ => exact h
theorem all_comp {C : Cx} {i : Nat} {e it : E} {ρ : Loc} {m : Mem} {xs : List W} {s : Src} (hm : Cm m) (hI : evI C it ρ m = .ok s m) (hg : ∀ j, s.get m j = Src.get (.tup xs) m j) (hn : s.len m = xs.length) (hl : xs.length ≤ lim) {js : List Nat} (h : ∀ x ∈ xs, evE C e ((clr js ρ).set i (some x)) m = .ok (.bl true) m) :
  evE C (.blt .all (.cons (.frz (.comp (.gen (.var i) js it .nil (.elt e)))) .nil)) ρ m = .ok (.bl true) m := by
 obtain ⟨ρ', hc⟩ := comp_fm (C := C) (get := s.get) (t := .var i) (ifs := .nil) (e := e) (ρ := clr js ρ) (m := m) (xs := xs) (B := fun x => (clr js ρ).set i (some x)) (p := fun _ => true) (g := fun _ => .bl true) (fun j hj => by rw [hg, get_tup_it hj]) (by rw [hg]; exact get_tup_fin (by omega)) (fun x _ => by simp only [bindT]) (fun x _ y _ => by simp only [bindT, List.set_set]) (fun x _ => by simp only [sIfs_nil, sIfs_cons]) (fun x hx _ => h x hx) hl
 rw [filterT, map_rep, ← hn] at hc
 have hf := frz_new (comp_ok (js := js) (ifs := .nil) (g := .elt e) hI (by rw [hn]; rw [hn] at hc; exact hc)) rfl hm (pureWs_all.mpr fun x hx => by rw [(List.mem_replicate.mp hx).2]; rfl)
 rw [E_blt, Es_cons, hf]
 simp only [B_ok, Es_nil, bltop, getL, bools_true, all_true]
theorem any_comp {C : Cx} {t : T} {e it : E} {ρ : Loc} {m : Mem} {xs : List W} {s : Src} {B : W → Loc} {js : List Nat} (hm : Cm m) (hI : evI C it ρ m = .ok s m) (hg : ∀ j (h : j < xs.length), s.get m j = .it xs[j]) (hf : s.get m xs.length = .fin) (hn : s.len m = xs.length) (hl : xs.length ≤ lim)
  (h0 : ∀ x ∈ xs, bindT t x (clr js ρ) = some (B x)) (h1 : ∀ x ∈ xs, ∀ y ∈ xs, bindT t y (B x) = some (B y)) (h : ∀ x ∈ xs, evE C e (B x) m = .ok (.bl false) m) :
  evE C (.blt .any (.cons (.frz (.comp (.gen t js it .nil (.elt e)))) .nil)) ρ m = .ok (.bl false) m := by
 obtain ⟨ρ', hc⟩ := comp_fm (C := C) (get := s.get) (t := t) (ifs := .nil) (e := e) (ρ := clr js ρ) (m := m) (xs := xs) (B := B) (p := fun _ => true) (g := fun _ => .bl false) hg hf h0 h1 (fun x _ => by simp only [sIfs_nil, sIfs_cons]) (fun x hx _ => h x hx) hl
 rw [filterT, map_rep, ← hn] at hc
 have hf := frz_new (comp_ok (js := js) (ifs := .nil) (g := .elt e) hI (by rw [hn]; rw [hn] at hc; exact hc)) rfl hm (pureWs_all.mpr fun x hx => by rw [(List.mem_replicate.mp hx).2]; rfl)
 have hb : ∀ n : Nat, bools (List.replicate n (W.bl false)) = some (List.replicate n false) := fun n => by
  induction n with
  | zero => rfl
  | succ n ih => simp [List.replicate_succ, bools, ih]
 rw [E_blt, Es_cons, hf]
 simp only [B_ok, Es_nil, bltop, getL, hb]
 simp
theorem evT_val {C : Cx} {e : E} {ρ : Loc} {m m1 : Mem} {b : Bool} (he : evT C e ρ m = (evE C e ρ m).bind fun w m => D.truthy m w) (h : evE C e ρ m = .ok (.bl b) m1) : evT C e ρ m = .ok b m1 := by rw [he, h]; rfl
theorem E_callN {p : Pg} {n : Nat} {ρ : Loc} {m : Mem} (f : Nat) (es : Es) : evE (Cn p n) (.call f es) ρ m = (evEs (Cn p n) es ρ m).bind fun ws m => callP (D.runN p n f) ws m := by simp only [sE_var, sE_cst, sE_bin, sE_neg, sE_not, sE_and, sE_or, sE_cmp, sE_chain, sE_ife, sE_tup, sE_lst, sE_idx, sE_slc, sE_call, sE_blt, sE_isI, sE_meth, sE_comp, sE_lrng, sE_frz, sE_fld, sE_make, sE_mth, sE_set0, sE_sset]
theorem E_mthN {p : Pg} {n : Nat} {ρ : Loc} {m : Mem} (o : E) (f : Str) (es : Es) : evE (Cn p n) (.mth o f es) ρ m = (evE (Cn p n) o ρ m).bind fun x m => match mthop p.cs x f m with
  | some i => (evEs (Cn p n) es ρ m).bind fun ws m => callP (D.runN p n i) (x :: ws) m
  | none => .no := by rfl
theorem E_fldN {p : Pg} {n : Nat} {ρ : Loc} {m : Mem} (a : E) (f : Str) : evE (Cn p n) (.fld a f) ρ m = (evE (Cn p n) a ρ m).bind fun x m => fldop p.cs x f m := by simp only [sE_var, sE_cst, sE_bin, sE_neg, sE_not, sE_and, sE_or, sE_cmp, sE_chain, sE_ife, sE_tup, sE_lst, sE_idx, sE_slc, sE_call, sE_blt, sE_isI, sE_meth, sE_comp, sE_lrng, sE_frz, sE_fld, sE_make, sE_mth, sE_set0, sE_sset]
theorem len0_ {P : List PySem.Value → Prop} (h : P []) (us : List PySem.Value) (hl : us.length = 0) : P us := by
 cases us with
 | nil => exact h
 | cons a t => cases hl
theorem len1_ {P : List PySem.Value → Prop} (h : ∀ a0, P [a0]) (us : List PySem.Value) (hl : us.length = 1) : P us := by
 cases us with
 | nil => cases hl
 | cons a t => exact len0_ (P := fun t => P (a :: t)) (h a) t (Nat.succ.inj hl)
theorem len2_ {P : List PySem.Value → Prop} (h : ∀ a0 a1, P [a0, a1]) (us : List PySem.Value) (hl : us.length = 2) : P us := by
 cases us with
 | nil => cases hl
 | cons a t => exact len1_ (P := fun t => P (a :: t)) (h a) t (Nat.succ.inj hl)
theorem len3_ {P : List PySem.Value → Prop} (h : ∀ a0 a1 a2, P [a0, a1, a2]) (us : List PySem.Value) (hl : us.length = 3) : P us := by
 cases us with
 | nil => cases hl
 | cons a t => exact len2_ (P := fun t => P (a :: t)) (h a) t (Nat.succ.inj hl)
theorem len4_ {P : List PySem.Value → Prop} (h : ∀ a0 a1 a2 a3, P [a0, a1, a2, a3]) (us : List PySem.Value) (hl : us.length = 4) : P us := by
 cases us with
 | nil => cases hl
 | cons a t => exact len3_ (P := fun t => P (a :: t)) (h a) t (Nat.succ.inj hl)
theorem len5_ {P : List PySem.Value → Prop} (h : ∀ a0 a1 a2 a3 a4, P [a0, a1, a2, a3, a4]) (us : List PySem.Value) (hl : us.length = 5) : P us := by
 cases us with
 | nil => cases hl
 | cons a t => exact len4_ (P := fun t => P (a :: t)) (h a) t (Nat.succ.inj hl)
theorem len6_ {P : List PySem.Value → Prop} (h : ∀ a0 a1 a2 a3 a4 a5, P [a0, a1, a2, a3, a4, a5]) (us : List PySem.Value) (hl : us.length = 6) : P us := by
 cases us with
 | nil => cases hl
 | cons a t => exact len5_ (P := fun t => P (a :: t)) (h a) t (Nat.succ.inj hl)
end D
end
section
set_option Elab.async false
set_option linter.all false
set_option maxRecDepth 100000
set_option autoImplicit false
namespace D
open PySem
abbrev pot (A B : Int) : O := .lst [.int A, .int B]
noncomputable def Pot (m : Mem) (p : Nat) : Prop := ∃ A B, m[p]? = some (pot A B)
noncomputable def PS (p : Nat) (m m' : Mem) : Prop := ∃ A B, m' = m.set p (pot A B)
section
variable {m m' m'' : Mem} {p q : Nat}
theorem Pot.refl (h : Pot m p) : PS p m m := let ⟨A, B, e⟩ := h; ⟨A, B, (set_same e).symm⟩
theorem PS.trans (h : PS p m m') (h' : PS p m' m'') : PS p m m'' := by
 obtain ⟨A, B, rfl⟩ := h
 obtain ⟨A', B', rfl⟩ := h'
 exact ⟨A', B', by rw [List.set_set]⟩
theorem PS.len (h : PS p m m') : m'.length = m.length := by obtain ⟨A, B, rfl⟩ := h; simp
theorem PS.pot (h : PS p m m') (hp : Pot m p) : Pot m' p := by
 obtain ⟨A, B, rfl⟩ := h
 obtain ⟨A', B', e⟩ := hp
 exact ⟨A, B, List.getElem?_set_self (List.getElem?_eq_some_iff.mp e).1⟩
theorem PS.cm (h : PS p m m') (hm : Cm m) : Cm m' := by obtain ⟨A, B, rfl⟩ := h; exact hm.set rfl
theorem PS.ne (h : PS p m m') (hq : p ≠ q) : m'[q]? = m[q]? := by obtain ⟨A, B, rfl⟩ := h; exact List.getElem?_set_ne hq
theorem Pot.lt (h : Pot m p) : p < m.length := let ⟨_, _, e⟩ := h; (List.getElem?_eq_some_iff.mp e).1
theorem Pot.app {l : Mem} (h : Pot m p) : Pot (m ++ l) p := let ⟨A, B, e⟩ := h; ⟨A, B, by rw [List.getElem?_append_left (List.getElem?_eq_some_iff.mp e).1]; exact e⟩
end
noncomputable def Draws (f : List W → Mem → R W) : Prop := ∀ {m : Mem} {p : Nat} {many : Int}, Pot m p → 0 < many → many < 1073741824 → ∃ d m', f [.ref p, .int many] m = .ok (.int d) m' ∧ PS p m m' ∧ 0 ≤ d ∧ d < many
theorem draws_comp {C : Cx} {f : Nat} {get : Mem → Nat → Nx} {i : Nat} {e : E} {ρ : Loc} {m : Mem} {p n : Nat} {P : W → Prop} (hp : Pot m p) (hg : ∀ m j, j < n → ∃ x, get m j = .it x) (hf : ∀ m, get m n = .fin) (hn : n ≤ lim)
  (he : ∀ x m1, PS p m m1 → ∃ w m2, evE C e (ρ.set i (some x)) m1 = .ok w m2 ∧ PS p m1 m2 ∧ P w) :
  ∃ ws ρ' m', compN get (.var i) (fun ρ m => evIfs C .nil ρ m) (fun ρ m acc => evG C (.elt e) ρ m acc) n 0 ρ m [] = .ok (ws, ρ') m' ∧ PS p m m' ∧ ws.length = n ∧ ∀ w ∈ ws, P w := by
 obtain ⟨acc, ρ', m', e1, h1, h2, h3, h4⟩ := compN_inv (get := get) (t := .var i) (test := fun ρ m => evIfs C .nil ρ m) (body := fun ρ m acc => evG C (.elt e) ρ m acc) (n := n)
  (fun j ρ1 m1 acc => (∀ o, ρ1.set i o = ρ.set i o) ∧ PS p m m1 ∧ acc.length = j ∧ ∀ w ∈ acc, P w) (fun j ρ1 m1 acc hj => by
   rintro ⟨h1, h2, h3, h4⟩
   obtain ⟨x, hx⟩ := hg m1 j hj
   obtain ⟨w, m2, e1, e2, e3⟩ := he x m1 h2
   refine ⟨x, ρ.set i (some x), hx, by simp only [bindT, h1], .inl ⟨m1, acc ++ [w], ρ.set i (some x), m2, by simp only [sIfs_nil, sIfs_cons], ?_, fun o => by simp, h2.trans e2, by simp [h3], fun y hy => ?_⟩⟩
   ·have : acc.length < lim := by omega
    simp only [sG_elt, sG_gen, e1, R.bind, this, if_true]
   ·rcases List.mem_append.mp hy with hy | hy
    ·exact h4 y hy
    ·rw [List.mem_singleton] at hy; subst hy; exact e3) (fun ρ m acc _ => hf m) n 0 ρ m [] (by omega) ⟨fun _ => rfl, hp.refl, rfl, by simp⟩
 exact ⟨acc, ρ', m', e1, h2, h3, h4⟩
theorem slice_from (x : Str) (h : 1 ≤ x.cps.size) : Txt.slice x (some 1) none = ⟨(x.cps.toList.drop 1).toArray⟩ := by
 show PySem.StrLaws.sliceText x (some 1) none = _
 rw [PySem.StrLaws.sliceText_from ⟨by omega, by simp; omega⟩]
 simp
 exact List.take_of_length_le (by simp)
theorem nodup_sub {α : Type} [DecidableEq α] : ∀ {l k : List α}, l.Nodup → (∀ x ∈ l, x ∈ k) → l.length ≤ k.length
 | [], _, _, _ => Nat.zero_le _
 | x :: l, k, hn, h => by
  have hx := h x List.mem_cons_self
  have hn' := List.nodup_cons.mp hn
  have := nodup_sub (l := l) (k := k.erase x) hn'.2 fun y hy => (List.mem_erase_of_ne (fun z => by subst z; exact hn'.1 hy)).mpr (h y (List.mem_cons_of_mem _ hy))
  rw [List.length_erase_of_mem hx] at this
  have : 0 < k.length := List.length_pos_of_mem hx
  simp
  omega
theorem toD_str {m : Mem} {z : Str} {n : Nat} (h : z.cps.all (· < 0x110000) = true) : toD (n + 1) m (.str z) = some (.str z) := by simp only [toD, h, if_true]
theorem allD_strs {m : Mem} {n : Nat} : ∀ {ws : List Str}, (∀ z ∈ ws, z.cps.all (· < 0x110000) = true) → allD (toD (n + 1) m) (ws.map .str) = some (ws.map PyData.str)
 | [], _ => rfl
 | z :: r, h => by
  simp only [List.map_cons, allD, toD_str (h z List.mem_cons_self), allD_strs fun y hy => h y (List.mem_cons_of_mem _ hy)]
theorem eqv_str (a b : Str) : PyData.eqv (.str a) (.str b) = decide (a = b) := by
 simp only [PyData.eqv]
 by_cases h : a = b <;> simp [h]
theorem mem_strs {m : Mem} {z : Str} {ws : List Str} (hz : z.cps.all (· < 0x110000) = true) (hw : ∀ z ∈ ws, z.cps.all (· < 0x110000) = true) : memW m (.str z) (ws.map .str) = .ok (decide (z ∈ ws)) m := by
 simp only [memW, toD_str hz, allD_strs hw]
 congr 1
 rw [List.any_map]
 induction ws with
 | nil => simp
 | cons y r ih =>
  have := ih fun z hz => hw z (List.mem_cons_of_mem _ hz)
  simp only [List.any_cons, Function.comp, eqv_str, List.mem_cons] at this ⊢
  rw [this]
  by_cases h : z = y
  ·subst h; simp
  ·have h' : ¬ y = z := fun e => h e.symm
   simp [h, h']
theorem toD_fz {n : Nat} {m : Mem} {xs : List W} : toD (n + 1) m (.fz xs) = (allD (toD n m) xs).map .list := Eq.trans rfl rfl
theorem toD_tup {n : Nat} {m : Mem} {xs : List W} : toD (n + 1) m (.tup xs) = (allD (toD n m) xs).map .tuple := Eq.trans rfl rfl
theorem toD_ref {n a : Nat} {m : Mem} {xs : List W} (h : m[a]? = some (.lst xs)) : toD (n + 1) m (.ref a) = (allD (toD n m) xs).map .list := by
 simp only [toD, getL, h]
theorem toD_getL {n : Nat} {m : Mem} {w : W} {xs : List W} (h : getL m w = some xs) : toD (n + 1) m w = (allD (toD n m) xs).map .list := by
 cases w with
 | ref a =>
  simp only [getL] at h
  split at h
  ·rename_i ys e
   cases h
   exact toD_ref e
  ·cases h
 | fz ys => cases h; exact toD_fz
 | _ => cases h
theorem allD_ints {m : Mem} {k : Nat} : ∀ ns : List Int, allD (toD (k + 1) m) (ns.map .int) = some (ns.map PyData.int)
 | [] => rfl
 | a :: r => by simp only [List.map_cons, allD, allD_ints r]; rfl
theorem allD_map {α β : Type} {f : W → Option β} {g : α → W} {h : α → β} : ∀ {xs : List α}, (∀ a ∈ xs, f (g a) = some (h a)) → allD f (xs.map g) = some (xs.map h)
 | [], _ => rfl
 | a :: r, hh => by simp only [List.map_cons, allD, hh a List.mem_cons_self, allD_map fun x hx => hh x (List.mem_cons_of_mem _ hx)]
theorem eq_same {m : Mem} {x y : W} {d : PyData} (hx : toD 60 m x = some d) (hy : toD 60 m y = some d) : eqW m x y = .ok true m := by
 simp only [eqW, hx, hy, PySem.SeqAt.eqv_refl d (toD_lay _ hx).1]
end D
end
section
set_option Elab.async false
set_option linter.all false
set_option maxRecDepth 100000
set_option maxHeartbeats 4000000
set_option autoImplicit false
namespace My
open PySem L2 D
noncomputable def top (i : Nat) : Stmt := PySem.Challenge.pw_relayholds_k51_tables_told.main.body.getD i (.Pass ⟨0, 0, 0, 0⟩)
abbrev s0 : Stmt := (top 7)
noncomputable def b0_1 : Ss := (.cons (.ife (.or (.not (.call 1 (.cons (.var 3) .nil))) (.cmp .In (.var 3) (.var 1))) (.cons (.ret (.var 2)) .nil) .nil) (.cons (.expr (.meth (.var 1) "add" (.cons (.var 3) .nil))) .nil))
noncomputable def b0 : Ss := (.cons (.asg (.pt (.var 1)) .set0) (.cons (.for_ (.tup (.cons (.var 2) (.cons (.var 3) .nil))) (.enm (.var 0)) b0_1) (.cons (.ret (.cst .non)) .nil)))
abbrev s1 : Stmt := (top 8)
noncomputable def b1 : Ss := (.cons (.ret (.and (.chain .LtE .LtE (.cst (.int 1)) (.blt .len (.cons (.var 0) .nil)) (.cst (.int 8))) (.blt .all (.cons (.frz (.comp (.gen (.var 1) [1] (.var 0) .nil (.elt (.chain .LtE .LtE (.cst (.str "a")) (.var 1) (.cst (.str "z"))))))) .nil)))) .nil)
abbrev s2 : Stmt := (inClass (top 12) 0)
noncomputable def b2 : Ss := (.cons (.expr (.call 11 (.cons (.var 1) (.cons (.var 2) (.cons (.var 3) (.cons (.var 4) (.cons (.var 5) .nil))))))) (.cons (.fas (.var 0) "key_list" (.frz (.blt .list (.cons (.var 1) .nil)))) (.cons (.fas (.var 0) "state_list" (.frz (.blt .list (.cons (.var 2) .nil)))) (.cons (.fas (.var 0) "lamp_list" (.frz (.blt .list (.cons (.var 3) .nil)))) (.cons (.fas (.var 0) "row_list" (.frz (.comp (.gen (.var 6) [6] (.var 4) .nil (.elt (.blt .tuple (.cons (.var 6) .nil))))))) (.cons (.fas (.var 0) "light_list" (.frz (.blt .list (.cons (.var 5) .nil)))) .nil))))))
abbrev s3 : Stmt := (inClass (top 12) 1)
noncomputable def b3 : Ss := (.cons (.ret (.blt .list (.cons (.fld (.var 0) "key_list") .nil))) .nil)
abbrev s4 : Stmt := (inClass (top 12) 2)
noncomputable def b4 : Ss := (.cons (.ret (.blt .list (.cons (.fld (.var 0) "state_list") .nil))) .nil)
abbrev s5 : Stmt := (inClass (top 12) 3)
noncomputable def b5 : Ss := (.cons (.ret (.blt .list (.cons (.fld (.var 0) "lamp_list") .nil))) .nil)
abbrev s6 : Stmt := (inClass (top 12) 4)
noncomputable def b6 : Ss := (.cons (.ret (.call 10 (.cons (.fld (.var 0) "key_list") .nil))) .nil)
abbrev s7 : Stmt := (inClass (top 12) 5)
noncomputable def b7 : Ss := (.cons (.ret (.idx (.idx (.fld (.var 0) "row_list") (.var 1)) (.var 2))) .nil)
abbrev s8 : Stmt := (inClass (top 12) 6)
noncomputable def b8 : Ss := (.cons (.ret (.idx (.fld (.var 0) "light_list") (.var 1))) .nil)
abbrev s9 : Stmt := (top 13)
noncomputable def b9 : Ss := (.cons (.ret (.blt .tuple (.cons (.frz (.comp (.gen (.var 2) [2] (.rng (.var 0)) .nil (.elt (.bin .BitAnd (.bin .RShift (.var 1) (.var 2)) (.cst (.int 1))))))) .nil))) .nil)
abbrev s10 : Stmt := (top 14)
noncomputable def b10 : Ss := (.cons (.ret (.bin .LShift (.cst (.int 1)) (.blt .len (.cons (.var 0) .nil)))) .nil)
abbrev s11 : Stmt := (top 15)
noncomputable def b11 : Ss := (.cons (.asg (.pt (.var 5)) (.call 0 (.cons (.frz (.bin .Add (.bin .Add (.var 0) (.var 1)) (.var 2))) .nil))) (.cons (.ife (.cmp .IsNot (.var 5) (.cst .non)) (.cons .never .nil) .nil) (.cons (.expr (.call 12 (.cons (.var 0) (.cons (.var 1) (.cons (.var 2) .nil))))) (.cons (.expr (.call 13 (.cons (.cst (.str "row")) (.cons (.var 3) (.cons (.blt .len (.cons (.var 1) .nil)) (.cons (.call 10 (.cons (.var 0) .nil)) (.cons (.blt .len (.cons (.var 1) .nil)) .nil))))))) (.cons (.expr (.call 13 (.cons (.cst (.str "lights")) (.cons (.var 4) (.cons (.blt .len (.cons (.var 1) .nil)) (.cons (.blt .len (.cons (.var 2) .nil)) (.cons (.cst (.int 2)) .nil))))))) (.cons (.expr (.call 14 (.cons (.var 3) .nil))) .nil))))))
abbrev s12 : Stmt := (top 16)
noncomputable def b12 : Ss := (.cons (.ife (.cmp .Gt (.blt .len (.cons (.var 0) .nil)) (.cst (.int 2))) (.cons .never .nil) .nil) (.cons (.ife (.not (.chain .LtE .LtE (.cst (.int 2)) (.blt .len (.cons (.var 1) .nil)) (.cst (.int 4)))) (.cons .never .nil) .nil) (.cons (.ife (.cmp .Gt (.blt .len (.cons (.var 2) .nil)) (.cst (.int 2))) (.cons .never .nil) .nil) .nil)))
abbrev s13 : Stmt := (top 17)
noncomputable def b13_1 : Ss := (.cons (.ife (.or (.cmp .GtE (.var 5) (.blt .len (.cons (.var 1) .nil))) (.or (.cmp .NotEq (.blt .len (.cons (.idx (.var 1) (.var 5)) .nil)) (.var 3)) (.not (.blt .all (.cons (.frz (.comp (.gen (.var 6) [6] (.idx (.var 1) (.var 5)) .nil (.elt (.chain .LtE .Lt (.cst (.int 0)) (.var 6) (.var 4)))))) .nil))))) (.cons .never .nil) .nil) .nil)
noncomputable def b13 : Ss := (.cons (.for_ (.var 5) (.rng (.var 2)) b13_1) (.cons (.ife (.cmp .Gt (.blt .len (.cons (.var 1) .nil)) (.var 2)) (.cons .never .nil) .nil) .nil))
abbrev s14 : Stmt := (top 18)
noncomputable def b14_1 : Ss := (.cons (.ife (.blt .any (.cons (.frz (.comp (.gen (.tup (.cons (.var 3) (.cons (.var 4) .nil))) [3, 4] (.enm (.var 2)) .nil (.elt (.cmp .NotEq (.idx (.idx (.var 0) (.var 4)) (.var 3)) (.var 4)))))) .nil)) (.cons .never .nil) .nil) .nil)
noncomputable def b14 : Ss := (.cons (.for_ (.tup (.cons (.var 1) (.cons (.var 2) .nil))) (.enm (.var 0)) b14_1) .nil)
abbrev s15 : Stmt := (top 20)
noncomputable def b15 : Ss := (.cons (.asg (.pt (.var 2)) (.ife (.cmp .Lt (.var 1) (.blt .len (.cons (.var 0) .nil))) (.idx (.var 0) (.var 1)) (.cst (.int 0)))) (.cons (.ret (.lst (.cons (.blt .max (.cons (.cst (.int 0)) (.cons (.bin .Sub (.blt .abs (.cons (.var 2) .nil)) (.bin .Pow (.cst (.int 10)) (.cst (.int 18)))) .nil))) (.cons (.bin .Add (.bin .Add (.bin .Mod (.blt .abs (.cons (.var 2) .nil)) (.cst (.int 2147483587))) (.bin .Mult (.cst (.int 31)) (.var 1))) (.cst (.int 5))) .nil)))) .nil))
abbrev s16 : Stmt := (top 21)
noncomputable def b16 : Ss := (.cons (.ife (.cmp .Gt (.idx (.var 0) (.cst (.int 0))) (.cst (.int 0))) (.cons (.asg (.tup (.cons (.sub (.var 0) (.cst (.int 0))) (.cons (.pt (.var 2)) .nil))) (.blt .divmod (.cons (.idx (.var 0) (.cst (.int 0))) (.cons (.var 1) .nil)))) (.cons (.ret (.var 2)) .nil)) .nil) (.cons (.asg (.sub (.var 0) (.cst (.int 1))) (.bin .Mod (.bin .Add (.bin .Mult (.idx (.var 0) (.cst (.int 1))) (.cst (.int 48271))) (.cst (.int 3571))) (.cst (.int 2147483647)))) (.cons (.ret (.bin .Mod (.bin .FloorDiv (.bin .Mod (.bin .Mult (.idx (.var 0) (.cst (.int 1))) (.idx (.var 0) (.cst (.int 1)))) (.cst (.int 2147483629))) (.cst (.int 13))) (.var 1))) .nil)))
abbrev s17 : Stmt := (top 22)
noncomputable def b17_1 : Ss := (.cons (.ife (.cmp .In (.var 3) (.var 1)) (.cons (.asg (.pt (.var 3)) (.bin .Add (.idx (.var 2) (.bin .Mod (.bin .Add (.meth (.var 2) "index" (.cons (.idx (.var 3) (.cst (.int 0))) .nil)) (.cst (.int 1))) (.cst (.int 26)))) (.slc (.var 3) (.some (.cst (.int 1))) .none))) .nil) .nil) .nil)
noncomputable def b17 : Ss := (.cons (.asg (.pt (.var 2)) (.cst (.str "abcdefghijklmnopqrstuvwxyz"))) (.cons (.asg (.pt (.var 3)) (.meth (.cst (.str "")) "join" (.cons (.frz (.comp (.gen (.var 5) [5] (.rng (.bin .Add (.cst (.int 1)) (.call 16 (.cons (.var 0) (.cons (.cst (.int 8)) .nil))))) .nil (.elt (.idx (.var 2) (.call 16 (.cons (.var 0) (.cons (.cst (.int 26)) .nil)))))))) .nil))) (.cons (.for_ (.var 4) (.rng (.cst (.int 26))) b17_1) (.cons (.expr (.meth (.var 1) "append" (.cons (.var 3) .nil))) (.cons (.ret (.var 3)) .nil)))))
abbrev s18 : Stmt := (top 23)
noncomputable def b18 : Ss := (.cons (.ret (.frz (.comp (.gen (.var 3) [3] (.rng (.var 1)) .nil (.elt (.call 17 (.cons (.var 0) (.cons (.var 2) .nil)))))))) .nil)
abbrev s19 : Stmt := (top 24)
noncomputable def b19_2 : Ss := (.cons (.expr (.meth (.idx (.var 4) (.var 3)) "append" (.cons (.ife (.cmp .In (.var 3) (.var 6)) (.var 3) (.idx (.var 6) (.call 16 (.cons (.var 0) (.cons (.blt .len (.cons (.var 6) .nil)) .nil))))) .nil))) .nil)
noncomputable def b19_1 : Ss := (.cons (.asg (.pt (.var 6)) (.frz (.comp (.gen (.var 3) [3] (.rng (.var 1)) (.cons (.cmp .Eq (.call 16 (.cons (.var 0) (.cons (.cst (.int 2)) .nil))) (.cst (.int 1))) .nil) (.elt (.var 3)))))) (.cons (.ife (.cmp .Eq (.var 6) (.frz (.lst .nil))) (.cons (.asg (.pt (.var 6)) (.frz (.lst (.cons (.call 16 (.cons (.var 0) (.cons (.var 1) .nil))) .nil)))) .nil) .nil) (.cons (.for_ (.var 3) (.rng (.var 1)) b19_2) .nil)))
noncomputable def b19 : Ss := (.cons (.asg (.pt (.var 4)) (.comp (.gen (.var 3) [3] (.rng (.var 1)) .nil (.elt (.lst .nil))))) (.cons (.for_ (.var 5) (.rng (.var 2)) b19_1) (.cons (.ret (.var 4)) .nil)))
abbrev s20 : Stmt := (top 25)
noncomputable def b20 : Ss := (.cons (.asg (.pt (.var 1)) (.lst .nil)) (.cons (.asg (.pt (.var 2)) (.frz (.call 18 (.cons (.var 0) (.cons (.call 16 (.cons (.var 0) (.cons (.cst (.int 3)) .nil))) (.cons (.var 1) .nil)))))) (.cons (.asg (.pt (.var 3)) (.frz (.call 18 (.cons (.var 0) (.cons (.bin .Add (.cst (.int 2)) (.call 16 (.cons (.var 0) (.cons (.cst (.int 3)) .nil)))) (.cons (.var 1) .nil)))))) (.cons (.asg (.pt (.var 4)) (.frz (.call 18 (.cons (.var 0) (.cons (.call 16 (.cons (.var 0) (.cons (.cst (.int 3)) .nil))) (.cons (.var 1) .nil)))))) (.cons (.asg (.pt (.var 5)) (.frz (.call 19 (.cons (.var 0) (.cons (.blt .len (.cons (.var 3) .nil)) (.cons (.bin .LShift (.cst (.int 1)) (.blt .len (.cons (.var 2) .nil))) .nil)))))) (.cons (.ret (.frz (.lst (.cons (.var 2) (.cons (.var 3) (.cons (.var 4) (.cons (.var 5) (.cons (.frz (.comp (.gen (.var 6) [6] (.var 3) .nil (.elt (.blt .tuple (.cons (.frz (.comp (.gen (.var 7) [7] (.var 4) .nil (.elt (.call 16 (.cons (.var 0) (.cons (.cst (.int 2)) .nil))))))) .nil)))))) .nil)))))))) .nil))))))
abbrev s21 : Stmt := (top 26)
noncomputable def b21 : Ss := (.cons (.ret (.lst (.cons (.blt .list (.cons (.idx (.var 0) (.cst (.int 0))) .nil)) (.cons (.blt .list (.cons (.idx (.var 0) (.cst (.int 1))) .nil)) (.cons (.blt .list (.cons (.idx (.var 0) (.cst (.int 2))) .nil)) (.cons (.comp (.gen (.var 1) [1] (.idx (.var 0) (.cst (.int 3))) .nil (.elt (.blt .list (.cons (.var 1) .nil))))) (.cons (.blt .list (.cons (.idx (.var 0) (.cst (.int 4))) .nil)) .nil))))))) .nil)
abbrev s22 : Stmt := (top 27)
noncomputable def b22 : Ss := (.cons (.ret (.and (.isI (.var 0) "int") (.not (.isI (.var 0) "bool")))) .nil)
abbrev s23 : Stmt := (top 28)
noncomputable def b23_2 : Ss := (.cons (.ife (.or (.not (.call 22 (.cons (.mth (.var 0) "goes" (.cons (.var 7) (.cons (.var 8) .nil))) .nil))) (.cmp .NotEq (.mth (.var 0) "goes" (.cons (.var 7) (.cons (.var 8) .nil))) (.idx (.idx (.var 5) (.var 7)) (.var 8)))) (.cons (.ret (.cst (.bl false))) .nil) .nil) .nil)
noncomputable def b23_1 : Ss := (.cons (.ife (.or (.not (.isI (.mth (.var 0) "lights" (.cons (.var 7) .nil)) "tuple")) (.cmp .NotEq (.mth (.var 0) "lights" (.cons (.var 7) .nil)) (.idx (.var 6) (.var 7)))) (.cons (.ret (.cst (.bl false))) .nil) .nil) (.cons (.for_ (.var 8) (.rng (.bin .LShift (.cst (.int 1)) (.blt .len (.cons (.var 2) .nil)))) b23_2) .nil))
noncomputable def b23 : Ss := (.cons (.asg (.tup (.cons (.pt (.var 2)) (.cons (.pt (.var 3)) (.cons (.pt (.var 4)) (.cons (.pt (.var 5)) (.cons (.pt (.var 6)) .nil)))))) (.var 1)) (.cons (.ife (.or (.cmp .NotEq (.mth (.var 0) "key_words" .nil) (.var 2)) (.or (.cmp .NotEq (.mth (.var 0) "states" .nil) (.var 3)) (.cmp .NotEq (.mth (.var 0) "lamps" .nil) (.var 4)))) (.cons (.ret (.cst (.bl false))) .nil) .nil) (.cons (.ife (.or (.not (.call 22 (.cons (.mth (.var 0) "letters" .nil) .nil))) (.cmp .NotEq (.mth (.var 0) "letters" .nil) (.bin .LShift (.cst (.int 1)) (.blt .len (.cons (.var 2) .nil))))) (.cons (.ret (.cst (.bl false))) .nil) .nil) (.cons (.for_ (.var 7) (.rng (.blt .len (.cons (.var 3) .nil))) b23_1) (.cons (.ret (.cst (.bl true))) .nil)))))
abbrev s24 : Stmt := (top 29)
noncomputable def b24_1 : Ss := (.cons (.asg (.pt (.var 2)) (.call 9 (.cons (.var 0) (.cons (.var 1) .nil)))) (.cons (.ife (.or (.cmp .NotEq (.var 2) (.blt .tuple (.cons (.frz (.comp (.gen (.var 3) [3] (.rng (.var 0)) .nil (.elt (.bin .Mod (.bin .FloorDiv (.var 1) (.bin .LShift (.cst (.int 1)) (.var 3))) (.cst (.int 2))))))) .nil))) (.not (.blt .all (.cons (.frz (.comp (.gen (.var 4) [4] (.var 2) .nil (.elt (.call 22 (.cons (.var 4) .nil)))))) .nil)))) (.cons (.ret (.cst (.bl false))) .nil) .nil) .nil))
noncomputable def b24 : Ss := (.cons (.for_ (.var 1) (.rng (.bin .LShift (.cst (.int 1)) (.var 0))) b24_1) (.cons (.ret (.cst (.bl true))) .nil))
abbrev s25 : Stmt := (top 30)
noncomputable def b25_1 : Ss := (.cons (.expr (.meth (.var 1) "reverse" .nil)) (.cons (.expr (.meth (.var 1) "append" (.cons (.cst (.int 0)) .nil))) .nil))
noncomputable def b25_2 : Ss := (.cons (.expr (.meth (.var 2) "reverse" .nil)) .nil)
noncomputable def b25_3 : Ss := (.cons (.expr (.meth (.var 2) "clear" .nil)) .nil)
noncomputable def b25 : Ss := (.cons (.for_ (.var 1) (.idx (.var 0) (.cst (.int 3))) b25_1) (.cons (.for_ (.var 2) (.var 0) b25_2) (.cons (.for_ (.var 2) (.slc (.var 0) .none (.some (.cst (.int 2)))) b25_3) .nil)))
abbrev s26 : Stmt := (top 31)
noncomputable def b26_1 : Ss := (.cons (.asg (.pt (.var 3)) (.frz (.call 20 (.cons (.call 15 (.cons (.var 0) (.cons (.var 2) .nil))) .nil)))) (.cons (.asg (.pt (.var 4)) (.call 21 (.cons (.var 3) .nil))) (.cons (.asg (.pt (.var 5)) (.frz (.make "Table" (.cons (.idx (.var 4) (.cst (.int 0))) (.cons (.idx (.var 4) (.cst (.int 1))) (.cons (.idx (.var 4) (.cst (.int 2))) (.cons (.idx (.var 4) (.cst (.int 3))) (.cons (.idx (.var 4) (.cst (.int 4))) .nil)))))))) (.cons (.ife (.or (.cmp .NotEq (.var 4) (.var 3)) (.or (.not (.call 23 (.cons (.var 5) (.cons (.var 3) .nil)))) (.not (.call 24 (.cons (.blt .len (.cons (.idx (.var 3) (.cst (.int 0))) .nil)) .nil))))) (.cons (.ret (.cst (.bl false))) .nil) .nil) (.cons (.expr (.call 25 (.cons (.var 4) .nil))) (.cons (.expr (.meth (.mth (.var 5) "key_words" .nil) "append" (.cons (.cst (.str "more")) .nil))) (.cons (.expr (.meth (.mth (.var 5) "states" .nil) "clear" .nil)) (.cons (.expr (.meth (.mth (.var 5) "lamps" .nil) "append" (.cons (.cst (.str "more")) .nil))) (.cons (.expr (.meth (.var 1) "append" (.cons (.tup (.cons (.var 5) (.cons (.var 3) .nil))) .nil))) .nil)))))))))
noncomputable def b26 : Ss := (.cons (.asg (.pt (.var 1)) (.lst .nil)) (.cons (.for_ (.var 2) (.rng (.blt .max (.cons (.cst (.int 1)) (.cons (.blt .min (.cons (.blt .len (.cons (.var 0) .nil)) (.cons (.cst (.int 3)) .nil))) .nil)))) b26_1) (.cons (.ret (.blt .all (.cons (.frz (.comp (.gen (.tup (.cons (.var 5) (.cons (.var 3) .nil))) [3, 5] (.var 1) .nil (.elt (.call 23 (.cons (.var 5) (.cons (.var 3) .nil))))))) .nil))) .nil)))
noncomputable def fns : List (Str × (Nat × Nat)) := [("first_wrong_word", (0, 1)), ("is_word", (1, 1)), ("pressed_by", (9, 2)), ("count_letters", (10, 1)), ("check_table", (11, 5)), ("check_many", (12, 3)), ("check_each", (13, 5)), ("check_settled", (14, 1)), ("_law_pot", (15, 2)), ("_law_draw", (16, 2)), ("_law_word", (17, 2)), ("_law_words", (18, 3)), ("_law_rows", (19, 3)), ("_law_table", (20, 1)), ("_law_copy", (21, 1)), ("_law_is_whole", (22, 1)), ("_law_agrees", (23, 2)), ("_law_letters_right", (24, 1)), ("_law_spoil", (25, 1)), ("law", (26, 1))]
noncomputable def gl : List (Str × W) := [("MOST_SIGNS", (.int 8)), ("MOST_KEYS", (.int 2)), ("MOST_LAMPS", (.int 2)), ("LEAST_STATES", (.int 2)), ("MOST_STATES", (.int 4))]
noncomputable def fz : List Pos := [⟨20, 48, 20, 85⟩, ⟨28, 24, 28, 34⟩, ⟨29, 26, 29, 38⟩, ⟨30, 25, 30, 36⟩, ⟨31, 24, 31, 52⟩, ⟨32, 26, 32, 38⟩, ⟨52, 17, 52, 54⟩, ⟨56, 29, 56, 50⟩, ⟨72, 63, 72, 106⟩, ⟨78, 15, 78, 59⟩, ⟨92, 29, 92, 126⟩, ⟨99, 11, 99, 80⟩, ⟨103, 20, 103, 95⟩, ⟨104, 24, 104, 26⟩, ⟨105, 24, 105, 61⟩, ⟨111, 16, 111, 82⟩, ⟨112, 18, 112, 88⟩, ⟨113, 17, 113, 83⟩, ⟨114, 21, 114, 84⟩, ⟨115, 11, 115, 157⟩, ⟨115, 64, 115, 156⟩, ⟨115, 71, 115, 128⟩, ⟨136, 30, 136, 90⟩, ⟨136, 103, 136, 154⟩, ⟨150, 20, 150, 61⟩, ⟨152, 26, 152, 111⟩, ⟨160, 15, 160, 100⟩]
noncomputable def cs : Cs := ⟨[("Table", "key_list"), ("Table", "state_list"), ("Table", "lamp_list"), ("Table", "row_list"), ("Table", "light_list")], [(("Table", "key_words"), 3), (("Table", "states"), 4), (("Table", "lamps"), 5), (("Table", "letters"), 6), (("Table", "goes"), 7), (("Table", "lights"), 8)], [("Table", 2)]⟩
noncomputable def fuel : Nat := 1000
noncomputable def pg : Pg := ⟨[⟨1, 4, b0⟩, ⟨1, 2, b1⟩, ⟨6, 7, b2⟩, ⟨1, 1, b3⟩, ⟨1, 1, b4⟩, ⟨1, 1, b5⟩, ⟨1, 1, b6⟩, ⟨3, 3, b7⟩, ⟨2, 2, b8⟩, ⟨2, 3, b9⟩, ⟨1, 1, b10⟩, ⟨5, 6, b11⟩, ⟨3, 3, b12⟩, ⟨5, 7, b13⟩, ⟨1, 5, b14⟩, ⟨2, 3, b15⟩, ⟨2, 3, b16⟩, ⟨2, 6, b17⟩, ⟨3, 4, b18⟩, ⟨3, 7, b19⟩, ⟨1, 8, b20⟩, ⟨1, 2, b21⟩, ⟨1, 1, b22⟩, ⟨2, 9, b23⟩, ⟨1, 5, b24⟩, ⟨1, 3, b25⟩, ⟨1, 6, b26⟩], cs, fuel⟩
theorem e0 : cSs (cS 60 ⟨["words", "seen", "at", "word"], (defScope s0).names, fns, gl, cs, fz⟩) (defBody s0) = some b0 := by kernel_rfl
theorem sc0 : FnScope ["words", "seen", "at", "word"] ["words"] (defScope s0) := ⟨rfl, rfl, rfl, by decide +kernel, rfl, by decide +kernel, by decide +kernel⟩
theorem e1 : cSs (cS 60 ⟨["text", "sign"], (defScope s1).names, fns, gl, cs, fz⟩) (defBody s1) = some b1 := by kernel_rfl
theorem sc1 : FnScope ["text", "sign"] ["text"] (defScope s1) := ⟨rfl, rfl, rfl, by decide +kernel, rfl, by decide +kernel, by decide +kernel⟩
theorem e2 : cSs (cS 60 ⟨["self", "keys", "states", "lamps", "rows", "lights", "row"], (defScope s2).names, fns, gl, cs, fz⟩) (defBody s2) = some b2 := by kernel_rfl
theorem sc2 : FnScope ["self", "keys", "states", "lamps", "rows", "lights", "row"] ["self", "keys", "states", "lamps", "rows", "lights"] (defScope s2) := ⟨rfl, rfl, rfl, by decide +kernel, rfl, by decide +kernel, by decide +kernel⟩
theorem e3 : cSs (cS 60 ⟨["self"], (defScope s3).names, fns, gl, cs, fz⟩) (defBody s3) = some b3 := by kernel_rfl
theorem sc3 : FnScope ["self"] ["self"] (defScope s3) := ⟨rfl, rfl, rfl, by decide +kernel, rfl, by decide +kernel, by decide +kernel⟩
theorem e4 : cSs (cS 60 ⟨["self"], (defScope s4).names, fns, gl, cs, fz⟩) (defBody s4) = some b4 := by kernel_rfl
theorem sc4 : FnScope ["self"] ["self"] (defScope s4) := ⟨rfl, rfl, rfl, by decide +kernel, rfl, by decide +kernel, by decide +kernel⟩
theorem e5 : cSs (cS 60 ⟨["self"], (defScope s5).names, fns, gl, cs, fz⟩) (defBody s5) = some b5 := by kernel_rfl
theorem sc5 : FnScope ["self"] ["self"] (defScope s5) := ⟨rfl, rfl, rfl, by decide +kernel, rfl, by decide +kernel, by decide +kernel⟩
theorem e6 : cSs (cS 60 ⟨["self"], (defScope s6).names, fns, gl, cs, fz⟩) (defBody s6) = some b6 := by kernel_rfl
theorem sc6 : FnScope ["self"] ["self"] (defScope s6) := ⟨rfl, rfl, rfl, by decide +kernel, rfl, by decide +kernel, by decide +kernel⟩
theorem e7 : cSs (cS 60 ⟨["self", "s", "x"], (defScope s7).names, fns, gl, cs, fz⟩) (defBody s7) = some b7 := by kernel_rfl
theorem sc7 : FnScope ["self", "s", "x"] ["self", "s", "x"] (defScope s7) := ⟨rfl, rfl, rfl, by decide +kernel, rfl, by decide +kernel, by decide +kernel⟩
theorem e8 : cSs (cS 60 ⟨["self", "s"], (defScope s8).names, fns, gl, cs, fz⟩) (defBody s8) = some b8 := by kernel_rfl
theorem sc8 : FnScope ["self", "s"] ["self", "s"] (defScope s8) := ⟨rfl, rfl, rfl, by decide +kernel, rfl, by decide +kernel, by decide +kernel⟩
theorem e9 : cSs (cS 60 ⟨["many", "x", "key"], (defScope s9).names, fns, gl, cs, fz⟩) (defBody s9) = some b9 := by kernel_rfl
theorem sc9 : FnScope ["many", "x", "key"] ["many", "x"] (defScope s9) := ⟨rfl, rfl, rfl, by decide +kernel, rfl, by decide +kernel, by decide +kernel⟩
theorem e10 : cSs (cS 60 ⟨["keys"], (defScope s10).names, fns, gl, cs, fz⟩) (defBody s10) = some b10 := by kernel_rfl
theorem sc10 : FnScope ["keys"] ["keys"] (defScope s10) := ⟨rfl, rfl, rfl, by decide +kernel, rfl, by decide +kernel, by decide +kernel⟩
theorem e11 : cSs (cS 60 ⟨["keys", "states", "lamps", "rows", "lights", "wrong"], (defScope s11).names, fns, gl, cs, fz⟩) (defBody s11) = some b11 := by kernel_rfl
theorem sc11 : FnScope ["keys", "states", "lamps", "rows", "lights", "wrong"] ["keys", "states", "lamps", "rows", "lights"] (defScope s11) := ⟨rfl, rfl, rfl, by decide +kernel, rfl, by decide +kernel, by decide +kernel⟩
theorem e12 : cSs (cS 60 ⟨["keys", "states", "lamps"], (defScope s12).names, fns, gl, cs, fz⟩) (defBody s12) = some b12 := by kernel_rfl
theorem sc12 : FnScope ["keys", "states", "lamps"] ["keys", "states", "lamps"] (defScope s12) := ⟨rfl, rfl, rfl, by decide +kernel, rfl, by decide +kernel, by decide +kernel⟩
theorem e13 : cSs (cS 60 ⟨["word", "rows", "many", "width", "bound", "s", "number"], (defScope s13).names, fns, gl, cs, fz⟩) (defBody s13) = some b13 := by kernel_rfl
theorem sc13 : FnScope ["word", "rows", "many", "width", "bound", "s", "number"] ["word", "rows", "many", "width", "bound"] (defScope s13) := ⟨rfl, rfl, rfl, by decide +kernel, rfl, by decide +kernel, by decide +kernel⟩
theorem e14 : cSs (cS 60 ⟨["rows", "s", "row", "x", "t"], (defScope s14).names, fns, gl, cs, fz⟩) (defBody s14) = some b14 := by kernel_rfl
theorem sc14 : FnScope ["rows", "s", "row", "x", "t"] ["rows"] (defScope s14) := ⟨rfl, rfl, rfl, by decide +kernel, rfl, by decide +kernel, by decide +kernel⟩
theorem e15 : cSs (cS 60 ⟨["_law_script", "_law_k", "_law_cell"], (defScope s15).names, fns, gl, cs, fz⟩) (defBody s15) = some b15 := by kernel_rfl
theorem sc15 : FnScope ["_law_script", "_law_k", "_law_cell"] ["_law_script", "_law_k"] (defScope s15) := ⟨rfl, rfl, rfl, by decide +kernel, rfl, by decide +kernel, by decide +kernel⟩
theorem e16 : cSs (cS 60 ⟨["_law_pot_here", "_law_many", "_law_digit"], (defScope s16).names, fns, gl, cs, fz⟩) (defBody s16) = some b16 := by kernel_rfl
theorem sc16 : FnScope ["_law_pot_here", "_law_many", "_law_digit"] ["_law_pot_here", "_law_many"] (defScope s16) := ⟨rfl, rfl, rfl, by decide +kernel, rfl, by decide +kernel, by decide +kernel⟩
theorem e17 : cSs (cS 60 ⟨["_law_pot_here", "_law_taken", "_law_letters", "_law_word_here", "_law_turn", "_law_k"], (defScope s17).names, fns, gl, cs, fz⟩) (defBody s17) = some b17 := by kernel_rfl
theorem sc17 : FnScope ["_law_pot_here", "_law_taken", "_law_letters", "_law_word_here", "_law_turn", "_law_k"] ["_law_pot_here", "_law_taken"] (defScope s17) := ⟨rfl, rfl, rfl, by decide +kernel, rfl, by decide +kernel, by decide +kernel⟩
theorem e18 : cSs (cS 60 ⟨["_law_pot_here", "_law_many", "_law_taken", "_law_k"], (defScope s18).names, fns, gl, cs, fz⟩) (defBody s18) = some b18 := by kernel_rfl
theorem sc18 : FnScope ["_law_pot_here", "_law_many", "_law_taken", "_law_k"] ["_law_pot_here", "_law_many", "_law_taken"] (defScope s18) := ⟨rfl, rfl, rfl, by decide +kernel, rfl, by decide +kernel, by decide +kernel⟩
theorem e19 : cSs (cS 60 ⟨["_law_pot_here", "_law_many", "_law_letters", "_law_s", "_law_rows_here", "_law_x", "_law_stay"], (defScope s19).names, fns, gl, cs, fz⟩) (defBody s19) = some b19 := by kernel_rfl
theorem sc19 : FnScope ["_law_pot_here", "_law_many", "_law_letters", "_law_s", "_law_rows_here", "_law_x", "_law_stay"] ["_law_pot_here", "_law_many", "_law_letters"] (defScope s19) := ⟨rfl, rfl, rfl, by decide +kernel, rfl, by decide +kernel, by decide +kernel⟩
theorem e20 : cSs (cS 60 ⟨["_law_pot_here", "_law_taken", "_law_keys", "_law_states", "_law_lamps", "_law_rows_here", "_law_s", "_law_lamp"], (defScope s20).names, fns, gl, cs, fz⟩) (defBody s20) = some b20 := by kernel_rfl
theorem sc20 : FnScope ["_law_pot_here", "_law_taken", "_law_keys", "_law_states", "_law_lamps", "_law_rows_here", "_law_s", "_law_lamp"] ["_law_pot_here"] (defScope s20) := ⟨rfl, rfl, rfl, by decide +kernel, rfl, by decide +kernel, by decide +kernel⟩
theorem e21 : cSs (cS 60 ⟨["_law_told", "_law_row"], (defScope s21).names, fns, gl, cs, fz⟩) (defBody s21) = some b21 := by kernel_rfl
theorem sc21 : FnScope ["_law_told", "_law_row"] ["_law_told"] (defScope s21) := ⟨rfl, rfl, rfl, by decide +kernel, rfl, by decide +kernel, by decide +kernel⟩
theorem e22 : cSs (cS 60 ⟨["_law_thing"], (defScope s22).names, fns, gl, cs, fz⟩) (defBody s22) = some b22 := by kernel_rfl
theorem sc22 : FnScope ["_law_thing"] ["_law_thing"] (defScope s22) := ⟨rfl, rfl, rfl, by decide +kernel, rfl, by decide +kernel, by decide +kernel⟩
theorem e23 : cSs (cS 60 ⟨["_law_table_here", "_law_told", "_law_keys", "_law_states", "_law_lamps", "_law_rows_here", "_law_lights", "_law_s", "_law_x"], (defScope s23).names, fns, gl, cs, fz⟩) (defBody s23) = some b23 := by kernel_rfl
theorem sc23 : FnScope ["_law_table_here", "_law_told", "_law_keys", "_law_states", "_law_lamps", "_law_rows_here", "_law_lights", "_law_s", "_law_x"] ["_law_table_here", "_law_told"] (defScope s23) := ⟨rfl, rfl, rfl, by decide +kernel, rfl, by decide +kernel, by decide +kernel⟩
theorem e24 : cSs (cS 60 ⟨["_law_many", "_law_x", "_law_told", "_law_k", "_law_one"], (defScope s24).names, fns, gl, cs, fz⟩) (defBody s24) = some b24 := by kernel_rfl
theorem sc24 : FnScope ["_law_many", "_law_x", "_law_told", "_law_k", "_law_one"] ["_law_many"] (defScope s24) := ⟨rfl, rfl, rfl, by decide +kernel, rfl, by decide +kernel, by decide +kernel⟩
theorem e25 : cSs (cS 60 ⟨["_law_handed", "_law_row", "_law_some"], (defScope s25).names, fns, gl, cs, fz⟩) (defBody s25) = some b25 := by kernel_rfl
theorem sc25 : FnScope ["_law_handed", "_law_row", "_law_some"] ["_law_handed"] (defScope s25) := ⟨rfl, rfl, rfl, by decide +kernel, rfl, by decide +kernel, by decide +kernel⟩
theorem e26 : cSs (cS 60 ⟨["_law_script", "_law_made", "_law_k", "_law_told", "_law_handed", "_law_table_here"], (defScope s26).names, fns, gl, cs, fz⟩) (defBody s26) = some b26 := by kernel_rfl
theorem sc26 : FnScope ["_law_script", "_law_made", "_law_k", "_law_told", "_law_handed", "_law_table_here"] ["_law_script"] (defScope s26) := ⟨rfl, rfl, rfl, by decide +kernel, rfl, by decide +kernel, by decide +kernel⟩
theorem all_mk {l : PySem.W.OpenLaw} {w : World} {K : PySem.W.Frag} {h : Heap} {mg : Str → Option Value} {fa : Addr} (X : K.In h) (G : h.Ns mainGlobals mg) (hfa : mg "law" = some (.ref fa))
  {C_Table : Addr}
  {f0 : Addr} {od0 an0 : Option Addr} {sl0 : Array (Option Value)} {oc0 kV0 dc0 pm0 cd0 ct0 : Value}
  {f1 : Addr} {od1 an1 : Option Addr} {sl1 : Array (Option Value)} {oc1 kV1 dc1 pm1 cd1 ct1 : Value}
  {f2 : Addr} {od2 an2 : Option Addr} {sl2 : Array (Option Value)} {oc2 kV2 dc2 pm2 cd2 ct2 : Value}
  {f3 : Addr} {od3 an3 : Option Addr} {sl3 : Array (Option Value)} {oc3 kV3 dc3 pm3 cd3 ct3 : Value}
  {f4 : Addr} {od4 an4 : Option Addr} {sl4 : Array (Option Value)} {oc4 kV4 dc4 pm4 cd4 ct4 : Value}
  {f5 : Addr} {od5 an5 : Option Addr} {sl5 : Array (Option Value)} {oc5 kV5 dc5 pm5 cd5 ct5 : Value}
  {f6 : Addr} {od6 an6 : Option Addr} {sl6 : Array (Option Value)} {oc6 kV6 dc6 pm6 cd6 ct6 : Value}
  {f7 : Addr} {od7 an7 : Option Addr} {sl7 : Array (Option Value)} {oc7 kV7 dc7 pm7 cd7 ct7 : Value}
  {f8 : Addr} {od8 an8 : Option Addr} {sl8 : Array (Option Value)} {oc8 kV8 dc8 pm8 cd8 ct8 : Value}
  {f9 : Addr} {od9 an9 : Option Addr} {sl9 : Array (Option Value)} {oc9 kV9 dc9 pm9 cd9 ct9 : Value}
  {f10 : Addr} {od10 an10 : Option Addr} {sl10 : Array (Option Value)} {oc10 kV10 dc10 pm10 cd10 ct10 : Value}
  {f11 : Addr} {od11 an11 : Option Addr} {sl11 : Array (Option Value)} {oc11 kV11 dc11 pm11 cd11 ct11 : Value}
  {f12 : Addr} {od12 an12 : Option Addr} {sl12 : Array (Option Value)} {oc12 kV12 dc12 pm12 cd12 ct12 : Value}
  {f13 : Addr} {od13 an13 : Option Addr} {sl13 : Array (Option Value)} {oc13 kV13 dc13 pm13 cd13 ct13 : Value}
  {f14 : Addr} {od14 an14 : Option Addr} {sl14 : Array (Option Value)} {oc14 kV14 dc14 pm14 cd14 ct14 : Value}
  {f15 : Addr} {od15 an15 : Option Addr} {sl15 : Array (Option Value)} {oc15 kV15 dc15 pm15 cd15 ct15 : Value}
  {f16 : Addr} {od16 an16 : Option Addr} {sl16 : Array (Option Value)} {oc16 kV16 dc16 pm16 cd16 ct16 : Value}
  {f17 : Addr} {od17 an17 : Option Addr} {sl17 : Array (Option Value)} {oc17 kV17 dc17 pm17 cd17 ct17 : Value}
  {f18 : Addr} {od18 an18 : Option Addr} {sl18 : Array (Option Value)} {oc18 kV18 dc18 pm18 cd18 ct18 : Value}
  {f19 : Addr} {od19 an19 : Option Addr} {sl19 : Array (Option Value)} {oc19 kV19 dc19 pm19 cd19 ct19 : Value}
  {f20 : Addr} {od20 an20 : Option Addr} {sl20 : Array (Option Value)} {oc20 kV20 dc20 pm20 cd20 ct20 : Value}
  {f21 : Addr} {od21 an21 : Option Addr} {sl21 : Array (Option Value)} {oc21 kV21 dc21 pm21 cd21 ct21 : Value}
  {f22 : Addr} {od22 an22 : Option Addr} {sl22 : Array (Option Value)} {oc22 kV22 dc22 pm22 cd22 ct22 : Value}
  {f23 : Addr} {od23 an23 : Option Addr} {sl23 : Array (Option Value)} {oc23 kV23 dc23 pm23 cd23 ct23 : Value}
  {f24 : Addr} {od24 an24 : Option Addr} {sl24 : Array (Option Value)} {oc24 kV24 dc24 pm24 cd24 ct24 : Value}
  {f25 : Addr} {od25 an25 : Option Addr} {sl25 : Array (Option Value)} {oc25 kV25 dc25 pm25 cd25 ct25 : Value}
  {f26 : Addr} {od26 an26 : Option Addr} {sl26 : Array (Option Value)} {oc26 kV26 dc26 pm26 cd26 ct26 : Value}
  {g0 : Tok}
  {g1 : Tok}
  {g2 : Tok}
  {g3 : Tok}
  {g4 : Tok}
  (aC_Table : PySem.W.nsIn K mainGlobals "Table" = some (some (.ref C_Table)))
  (a0 : PySem.W.nsIn K mainGlobals "first_wrong_word" = some (some (.ref f0)))
  (l0 : K.lookup f0 = some ⟨oc0, od0, .func (PySem.W.fnOf "first_wrong_word" "first_wrong_word" (defArgs s0) (defBody s0) (defScope s0) .none kV0 dc0 pm0 an0 cd0 ct0), sl0⟩)
  (c0 : PySem.W.codeIn K cd0 "first_wrong_word" = true)
  (k0 : PySem.W.keepIn K (.ref f0) = true)
  (a1 : PySem.W.nsIn K mainGlobals "is_word" = some (some (.ref f1)))
  (l1 : K.lookup f1 = some ⟨oc1, od1, .func (PySem.W.fnOf "is_word" "is_word" (defArgs s1) (defBody s1) (defScope s1) .none kV1 dc1 pm1 an1 cd1 ct1), sl1⟩)
  (c1 : PySem.W.codeIn K cd1 "is_word" = true)
  (k1 : PySem.W.keepIn K (.ref f1) = true)
  (a2 : PySem.W.findIn K (.ref C_Table) "__init__" = some (some (.ref f2)))
  (i2 : PySem.W.isFn K (.ref f2) = true)
  (l2 : K.lookup f2 = some ⟨oc2, od2, .func (PySem.W.fnOf "__init__" "Table.__init__" (defArgs s2) (defBody s2) (defScope s2) .none kV2 dc2 pm2 an2 cd2 ct2), sl2⟩)
  (c2 : PySem.W.codeIn K cd2 "Table.__init__" = true)
  (k2 : PySem.W.keepIn K (.ref f2) = true)
  (a3 : PySem.W.findIn K (.ref C_Table) "key_words" = some (some (.ref f3)))
  (i3 : PySem.W.isFn K (.ref f3) = true)
  (l3 : K.lookup f3 = some ⟨oc3, od3, .func (PySem.W.fnOf "key_words" "Table.key_words" (defArgs s3) (defBody s3) (defScope s3) .none kV3 dc3 pm3 an3 cd3 ct3), sl3⟩)
  (c3 : PySem.W.codeIn K cd3 "Table.key_words" = true)
  (k3 : PySem.W.keepIn K (.ref f3) = true)
  (a4 : PySem.W.findIn K (.ref C_Table) "states" = some (some (.ref f4)))
  (i4 : PySem.W.isFn K (.ref f4) = true)
  (l4 : K.lookup f4 = some ⟨oc4, od4, .func (PySem.W.fnOf "states" "Table.states" (defArgs s4) (defBody s4) (defScope s4) .none kV4 dc4 pm4 an4 cd4 ct4), sl4⟩)
  (c4 : PySem.W.codeIn K cd4 "Table.states" = true)
  (k4 : PySem.W.keepIn K (.ref f4) = true)
  (a5 : PySem.W.findIn K (.ref C_Table) "lamps" = some (some (.ref f5)))
  (i5 : PySem.W.isFn K (.ref f5) = true)
  (l5 : K.lookup f5 = some ⟨oc5, od5, .func (PySem.W.fnOf "lamps" "Table.lamps" (defArgs s5) (defBody s5) (defScope s5) .none kV5 dc5 pm5 an5 cd5 ct5), sl5⟩)
  (c5 : PySem.W.codeIn K cd5 "Table.lamps" = true)
  (k5 : PySem.W.keepIn K (.ref f5) = true)
  (a6 : PySem.W.findIn K (.ref C_Table) "letters" = some (some (.ref f6)))
  (i6 : PySem.W.isFn K (.ref f6) = true)
  (l6 : K.lookup f6 = some ⟨oc6, od6, .func (PySem.W.fnOf "letters" "Table.letters" (defArgs s6) (defBody s6) (defScope s6) .none kV6 dc6 pm6 an6 cd6 ct6), sl6⟩)
  (c6 : PySem.W.codeIn K cd6 "Table.letters" = true)
  (k6 : PySem.W.keepIn K (.ref f6) = true)
  (a7 : PySem.W.findIn K (.ref C_Table) "goes" = some (some (.ref f7)))
  (i7 : PySem.W.isFn K (.ref f7) = true)
  (l7 : K.lookup f7 = some ⟨oc7, od7, .func (PySem.W.fnOf "goes" "Table.goes" (defArgs s7) (defBody s7) (defScope s7) .none kV7 dc7 pm7 an7 cd7 ct7), sl7⟩)
  (c7 : PySem.W.codeIn K cd7 "Table.goes" = true)
  (k7 : PySem.W.keepIn K (.ref f7) = true)
  (a8 : PySem.W.findIn K (.ref C_Table) "lights" = some (some (.ref f8)))
  (i8 : PySem.W.isFn K (.ref f8) = true)
  (l8 : K.lookup f8 = some ⟨oc8, od8, .func (PySem.W.fnOf "lights" "Table.lights" (defArgs s8) (defBody s8) (defScope s8) .none kV8 dc8 pm8 an8 cd8 ct8), sl8⟩)
  (c8 : PySem.W.codeIn K cd8 "Table.lights" = true)
  (k8 : PySem.W.keepIn K (.ref f8) = true)
  (a9 : PySem.W.nsIn K mainGlobals "pressed_by" = some (some (.ref f9)))
  (l9 : K.lookup f9 = some ⟨oc9, od9, .func (PySem.W.fnOf "pressed_by" "pressed_by" (defArgs s9) (defBody s9) (defScope s9) .none kV9 dc9 pm9 an9 cd9 ct9), sl9⟩)
  (c9 : PySem.W.codeIn K cd9 "pressed_by" = true)
  (k9 : PySem.W.keepIn K (.ref f9) = true)
  (a10 : PySem.W.nsIn K mainGlobals "count_letters" = some (some (.ref f10)))
  (l10 : K.lookup f10 = some ⟨oc10, od10, .func (PySem.W.fnOf "count_letters" "count_letters" (defArgs s10) (defBody s10) (defScope s10) .none kV10 dc10 pm10 an10 cd10 ct10), sl10⟩)
  (c10 : PySem.W.codeIn K cd10 "count_letters" = true)
  (k10 : PySem.W.keepIn K (.ref f10) = true)
  (a11 : PySem.W.nsIn K mainGlobals "check_table" = some (some (.ref f11)))
  (l11 : K.lookup f11 = some ⟨oc11, od11, .func (PySem.W.fnOf "check_table" "check_table" (defArgs s11) (defBody s11) (defScope s11) .none kV11 dc11 pm11 an11 cd11 ct11), sl11⟩)
  (c11 : PySem.W.codeIn K cd11 "check_table" = true)
  (k11 : PySem.W.keepIn K (.ref f11) = true)
  (a12 : PySem.W.nsIn K mainGlobals "check_many" = some (some (.ref f12)))
  (l12 : K.lookup f12 = some ⟨oc12, od12, .func (PySem.W.fnOf "check_many" "check_many" (defArgs s12) (defBody s12) (defScope s12) .none kV12 dc12 pm12 an12 cd12 ct12), sl12⟩)
  (c12 : PySem.W.codeIn K cd12 "check_many" = true)
  (k12 : PySem.W.keepIn K (.ref f12) = true)
  (a13 : PySem.W.nsIn K mainGlobals "check_each" = some (some (.ref f13)))
  (l13 : K.lookup f13 = some ⟨oc13, od13, .func (PySem.W.fnOf "check_each" "check_each" (defArgs s13) (defBody s13) (defScope s13) .none kV13 dc13 pm13 an13 cd13 ct13), sl13⟩)
  (c13 : PySem.W.codeIn K cd13 "check_each" = true)
  (k13 : PySem.W.keepIn K (.ref f13) = true)
  (a14 : PySem.W.nsIn K mainGlobals "check_settled" = some (some (.ref f14)))
  (l14 : K.lookup f14 = some ⟨oc14, od14, .func (PySem.W.fnOf "check_settled" "check_settled" (defArgs s14) (defBody s14) (defScope s14) .none kV14 dc14 pm14 an14 cd14 ct14), sl14⟩)
  (c14 : PySem.W.codeIn K cd14 "check_settled" = true)
  (k14 : PySem.W.keepIn K (.ref f14) = true)
  (a15 : PySem.W.nsIn K mainGlobals "_law_pot" = some (some (.ref f15)))
  (l15 : K.lookup f15 = some ⟨oc15, od15, .func (PySem.W.fnOf "_law_pot" "_law_pot" (defArgs s15) (defBody s15) (defScope s15) .none kV15 dc15 pm15 an15 cd15 ct15), sl15⟩)
  (c15 : PySem.W.codeIn K cd15 "_law_pot" = true)
  (k15 : PySem.W.keepIn K (.ref f15) = true)
  (a16 : PySem.W.nsIn K mainGlobals "_law_draw" = some (some (.ref f16)))
  (l16 : K.lookup f16 = some ⟨oc16, od16, .func (PySem.W.fnOf "_law_draw" "_law_draw" (defArgs s16) (defBody s16) (defScope s16) .none kV16 dc16 pm16 an16 cd16 ct16), sl16⟩)
  (c16 : PySem.W.codeIn K cd16 "_law_draw" = true)
  (k16 : PySem.W.keepIn K (.ref f16) = true)
  (a17 : PySem.W.nsIn K mainGlobals "_law_word" = some (some (.ref f17)))
  (l17 : K.lookup f17 = some ⟨oc17, od17, .func (PySem.W.fnOf "_law_word" "_law_word" (defArgs s17) (defBody s17) (defScope s17) .none kV17 dc17 pm17 an17 cd17 ct17), sl17⟩)
  (c17 : PySem.W.codeIn K cd17 "_law_word" = true)
  (k17 : PySem.W.keepIn K (.ref f17) = true)
  (a18 : PySem.W.nsIn K mainGlobals "_law_words" = some (some (.ref f18)))
  (l18 : K.lookup f18 = some ⟨oc18, od18, .func (PySem.W.fnOf "_law_words" "_law_words" (defArgs s18) (defBody s18) (defScope s18) .none kV18 dc18 pm18 an18 cd18 ct18), sl18⟩)
  (c18 : PySem.W.codeIn K cd18 "_law_words" = true)
  (k18 : PySem.W.keepIn K (.ref f18) = true)
  (a19 : PySem.W.nsIn K mainGlobals "_law_rows" = some (some (.ref f19)))
  (l19 : K.lookup f19 = some ⟨oc19, od19, .func (PySem.W.fnOf "_law_rows" "_law_rows" (defArgs s19) (defBody s19) (defScope s19) .none kV19 dc19 pm19 an19 cd19 ct19), sl19⟩)
  (c19 : PySem.W.codeIn K cd19 "_law_rows" = true)
  (k19 : PySem.W.keepIn K (.ref f19) = true)
  (a20 : PySem.W.nsIn K mainGlobals "_law_table" = some (some (.ref f20)))
  (l20 : K.lookup f20 = some ⟨oc20, od20, .func (PySem.W.fnOf "_law_table" "_law_table" (defArgs s20) (defBody s20) (defScope s20) .none kV20 dc20 pm20 an20 cd20 ct20), sl20⟩)
  (c20 : PySem.W.codeIn K cd20 "_law_table" = true)
  (k20 : PySem.W.keepIn K (.ref f20) = true)
  (a21 : PySem.W.nsIn K mainGlobals "_law_copy" = some (some (.ref f21)))
  (l21 : K.lookup f21 = some ⟨oc21, od21, .func (PySem.W.fnOf "_law_copy" "_law_copy" (defArgs s21) (defBody s21) (defScope s21) .none kV21 dc21 pm21 an21 cd21 ct21), sl21⟩)
  (c21 : PySem.W.codeIn K cd21 "_law_copy" = true)
  (k21 : PySem.W.keepIn K (.ref f21) = true)
  (a22 : PySem.W.nsIn K mainGlobals "_law_is_whole" = some (some (.ref f22)))
  (l22 : K.lookup f22 = some ⟨oc22, od22, .func (PySem.W.fnOf "_law_is_whole" "_law_is_whole" (defArgs s22) (defBody s22) (defScope s22) .none kV22 dc22 pm22 an22 cd22 ct22), sl22⟩)
  (c22 : PySem.W.codeIn K cd22 "_law_is_whole" = true)
  (k22 : PySem.W.keepIn K (.ref f22) = true)
  (a23 : PySem.W.nsIn K mainGlobals "_law_agrees" = some (some (.ref f23)))
  (l23 : K.lookup f23 = some ⟨oc23, od23, .func (PySem.W.fnOf "_law_agrees" "_law_agrees" (defArgs s23) (defBody s23) (defScope s23) .none kV23 dc23 pm23 an23 cd23 ct23), sl23⟩)
  (c23 : PySem.W.codeIn K cd23 "_law_agrees" = true)
  (k23 : PySem.W.keepIn K (.ref f23) = true)
  (a24 : PySem.W.nsIn K mainGlobals "_law_letters_right" = some (some (.ref f24)))
  (l24 : K.lookup f24 = some ⟨oc24, od24, .func (PySem.W.fnOf "_law_letters_right" "_law_letters_right" (defArgs s24) (defBody s24) (defScope s24) .none kV24 dc24 pm24 an24 cd24 ct24), sl24⟩)
  (c24 : PySem.W.codeIn K cd24 "_law_letters_right" = true)
  (k24 : PySem.W.keepIn K (.ref f24) = true)
  (a25 : PySem.W.nsIn K mainGlobals "_law_spoil" = some (some (.ref f25)))
  (l25 : K.lookup f25 = some ⟨oc25, od25, .func (PySem.W.fnOf "_law_spoil" "_law_spoil" (defArgs s25) (defBody s25) (defScope s25) .none kV25 dc25 pm25 an25 cd25 ct25), sl25⟩)
  (c25 : PySem.W.codeIn K cd25 "_law_spoil" = true)
  (k25 : PySem.W.keepIn K (.ref f25) = true)
  (a26 : PySem.W.nsIn K mainGlobals "law" = some (some (.ref f26)))
  (l26 : K.lookup f26 = some ⟨oc26, od26, .func (PySem.W.fnOf "law" "law" (defArgs s26) (defBody s26) (defScope s26) .none kV26 dc26 pm26 an26 cd26 ct26), sl26⟩)
  (c26 : PySem.W.codeIn K cd26 "law" = true)
  (k26 : PySem.W.keepIn K (.ref f26) = true)
  (pg_Table : PySem.W.plainGet K C_Table Str.empty = true)
  (hd_Table : PySem.W.hasDictIn K C_Table = true)
  (po_Table : PySem.W.plainOver K C_Table = true)
  (sa_Table : PySem.W.findIn K (.ref C_Table) "__setattr__" = some (some (.builtin "object.__setattr__")))
  (mk_Table : PySem.W.makesIn K C_Table = true)
  (kc_Table : PySem.W.keepIn K (.ref C_Table) = true)
  (n0_Table : PySem.W.findIn K (.ref C_Table) "key_list" = some none)
  (n1_Table : PySem.W.findIn K (.ref C_Table) "state_list" = some none)
  (n2_Table : PySem.W.findIn K (.ref C_Table) "lamp_list" = some none)
  (n3_Table : PySem.W.findIn K (.ref C_Table) "row_list" = some none)
  (n4_Table : PySem.W.findIn K (.ref C_Table) "light_list" = some none)
  (y0 : PySem.W.nsIn K mainGlobals "MOST_SIGNS" = some (some (.int 8 g0)))
  (y1 : PySem.W.nsIn K mainGlobals "MOST_KEYS" = some (some (.int 2 g1)))
  (y2 : PySem.W.nsIn K mainGlobals "MOST_LAMPS" = some (some (.int 2 g2)))
  (y3 : PySem.W.nsIn K mainGlobals "LEAST_STATES" = some (some (.int 2 g3)))
  (y4 : PySem.W.nsIn K mainGlobals "MOST_STATES" = some (some (.int 4 g4)))
  (z_len : PySem.W.nsIn K mainGlobals "len" = some none)
  (z_abs : PySem.W.nsIn K mainGlobals "abs" = some none)
  (z_max : PySem.W.nsIn K mainGlobals "max" = some none)
  (z_min : PySem.W.nsIn K mainGlobals "min" = some none)
  (z_divmod : PySem.W.nsIn K mainGlobals "divmod" = some none)
  (z_all : PySem.W.nsIn K mainGlobals "all" = some none)
  (z_any : PySem.W.nsIn K mainGlobals "any" = some none)
  (z_list : PySem.W.nsIn K mainGlobals "list" = some none)
  (z_tuple : PySem.W.nsIn K mainGlobals "tuple" = some none)
  (z_int : PySem.W.nsIn K mainGlobals "int" = some none)
  (z_bool : PySem.W.nsIn K mainGlobals "bool" = some none)
  (z_str : PySem.W.nsIn K mainGlobals "str" = some none)
  (z_dict : PySem.W.nsIn K mainGlobals "dict" = some none)
  (z_isinstance : PySem.W.nsIn K mainGlobals "isinstance" = some none)
  (z_range : PySem.W.nsIn K mainGlobals "range" = some none)
  (z_enumerate : PySem.W.nsIn K mainGlobals "enumerate" = some none)
  (z_zip : PySem.W.nsIn K mainGlobals "zip" = some none)
  (z_sorted : PySem.W.nsIn K mainGlobals "sorted" = some none)
  (z_set : PySem.W.nsIn K mainGlobals "set" = some none)
  : ∃ fd : FuncData, (∀ (s : Shared) (v : Value), BindsTo s fd ⟨[v], []⟩ [("_law_script", v)]) ∧ ∀ base : Heap, K.In base → base.Ns mainGlobals mg → FnOk l.prog w K mg base CX0 80 fa fd ["_law_script"] (spD K ⟨l.prog, w⟩ 1 (runN pg 40 26)) := by
 have e := hfa.symm.trans (PySem.W.mg_of X G a26)
 cases e
 have hC_Table : clsOf K "Table" = C_Table := by unfold clsOf; rw [aC_Table]
 have cl_Table : Cls K (clsOf K "Table") := by rw [hC_Table]; exact ⟨pg_Table, hd_Table, po_Table, sa_Table⟩
 have F0 := fun_mk (st := s0) l0 c0 k0
 have B0 := F0.binds (ps := ["words"]) fun _ _ _ _ _ _ us hl => len1_ (P := fun us => bindArgs _ ⟨us, []⟩ = pure (List.zip _ us)) (fun _ => rfl) us hl
 have D0 : ∃ fd, FD K pg fns gl fz 0 "first_wrong_word" f0 fd ["words"] := ⟨_, _, _, _, _, F0, sc0, e0, rfl, B0⟩
 have F1 := fun_mk (st := s1) l1 c1 k1
 have B1 := F1.binds (ps := ["text"]) fun _ _ _ _ _ _ us hl => len1_ (P := fun us => bindArgs _ ⟨us, []⟩ = pure (List.zip _ us)) (fun _ => rfl) us hl
 have D1 : ∃ fd, FD K pg fns gl fz 1 "is_word" f1 fd ["text"] := ⟨_, _, _, _, _, F1, sc1, e1, rfl, B1⟩
 have F2 := fun_mk (st := s2) l2 c2 k2
 have B2 := F2.binds (ps := ["self", "keys", "states", "lamps", "rows", "lights"]) fun _ _ _ _ _ _ us hl => len6_ (P := fun us => bindArgs _ ⟨us, []⟩ = pure (List.zip _ us)) (fun _ _ _ _ _ _ => rfl) us hl
 have D2 : ∃ fd, FD K pg fns gl fz 2 "__init__" f2 fd ["self", "keys", "states", "lamps", "rows", "lights"] := ⟨_, _, _, _, _, F2, sc2, e2, rfl, B2⟩
 have F3 := fun_mk (st := s3) l3 c3 k3
 have B3 := F3.binds (ps := ["self"]) fun _ _ _ _ _ _ us hl => len1_ (P := fun us => bindArgs _ ⟨us, []⟩ = pure (List.zip _ us)) (fun _ => rfl) us hl
 have D3 : ∃ fd, FD K pg fns gl fz 3 "key_words" f3 fd ["self"] := ⟨_, _, _, _, _, F3, sc3, e3, rfl, B3⟩
 have F4 := fun_mk (st := s4) l4 c4 k4
 have B4 := F4.binds (ps := ["self"]) fun _ _ _ _ _ _ us hl => len1_ (P := fun us => bindArgs _ ⟨us, []⟩ = pure (List.zip _ us)) (fun _ => rfl) us hl
 have D4 : ∃ fd, FD K pg fns gl fz 4 "states" f4 fd ["self"] := ⟨_, _, _, _, _, F4, sc4, e4, rfl, B4⟩
 have F5 := fun_mk (st := s5) l5 c5 k5
 have B5 := F5.binds (ps := ["self"]) fun _ _ _ _ _ _ us hl => len1_ (P := fun us => bindArgs _ ⟨us, []⟩ = pure (List.zip _ us)) (fun _ => rfl) us hl
 have D5 : ∃ fd, FD K pg fns gl fz 5 "lamps" f5 fd ["self"] := ⟨_, _, _, _, _, F5, sc5, e5, rfl, B5⟩
 have F6 := fun_mk (st := s6) l6 c6 k6
 have B6 := F6.binds (ps := ["self"]) fun _ _ _ _ _ _ us hl => len1_ (P := fun us => bindArgs _ ⟨us, []⟩ = pure (List.zip _ us)) (fun _ => rfl) us hl
 have D6 : ∃ fd, FD K pg fns gl fz 6 "letters" f6 fd ["self"] := ⟨_, _, _, _, _, F6, sc6, e6, rfl, B6⟩
 have F7 := fun_mk (st := s7) l7 c7 k7
 have B7 := F7.binds (ps := ["self", "s", "x"]) fun _ _ _ _ _ _ us hl => len3_ (P := fun us => bindArgs _ ⟨us, []⟩ = pure (List.zip _ us)) (fun _ _ _ => rfl) us hl
 have D7 : ∃ fd, FD K pg fns gl fz 7 "goes" f7 fd ["self", "s", "x"] := ⟨_, _, _, _, _, F7, sc7, e7, rfl, B7⟩
 have F8 := fun_mk (st := s8) l8 c8 k8
 have B8 := F8.binds (ps := ["self", "s"]) fun _ _ _ _ _ _ us hl => len2_ (P := fun us => bindArgs _ ⟨us, []⟩ = pure (List.zip _ us)) (fun _ _ => rfl) us hl
 have D8 : ∃ fd, FD K pg fns gl fz 8 "lights" f8 fd ["self", "s"] := ⟨_, _, _, _, _, F8, sc8, e8, rfl, B8⟩
 have F9 := fun_mk (st := s9) l9 c9 k9
 have B9 := F9.binds (ps := ["many", "x"]) fun _ _ _ _ _ _ us hl => len2_ (P := fun us => bindArgs _ ⟨us, []⟩ = pure (List.zip _ us)) (fun _ _ => rfl) us hl
 have D9 : ∃ fd, FD K pg fns gl fz 9 "pressed_by" f9 fd ["many", "x"] := ⟨_, _, _, _, _, F9, sc9, e9, rfl, B9⟩
 have F10 := fun_mk (st := s10) l10 c10 k10
 have B10 := F10.binds (ps := ["keys"]) fun _ _ _ _ _ _ us hl => len1_ (P := fun us => bindArgs _ ⟨us, []⟩ = pure (List.zip _ us)) (fun _ => rfl) us hl
 have D10 : ∃ fd, FD K pg fns gl fz 10 "count_letters" f10 fd ["keys"] := ⟨_, _, _, _, _, F10, sc10, e10, rfl, B10⟩
 have F11 := fun_mk (st := s11) l11 c11 k11
 have B11 := F11.binds (ps := ["keys", "states", "lamps", "rows", "lights"]) fun _ _ _ _ _ _ us hl => len5_ (P := fun us => bindArgs _ ⟨us, []⟩ = pure (List.zip _ us)) (fun _ _ _ _ _ => rfl) us hl
 have D11 : ∃ fd, FD K pg fns gl fz 11 "check_table" f11 fd ["keys", "states", "lamps", "rows", "lights"] := ⟨_, _, _, _, _, F11, sc11, e11, rfl, B11⟩
 have F12 := fun_mk (st := s12) l12 c12 k12
 have B12 := F12.binds (ps := ["keys", "states", "lamps"]) fun _ _ _ _ _ _ us hl => len3_ (P := fun us => bindArgs _ ⟨us, []⟩ = pure (List.zip _ us)) (fun _ _ _ => rfl) us hl
 have D12 : ∃ fd, FD K pg fns gl fz 12 "check_many" f12 fd ["keys", "states", "lamps"] := ⟨_, _, _, _, _, F12, sc12, e12, rfl, B12⟩
 have F13 := fun_mk (st := s13) l13 c13 k13
 have B13 := F13.binds (ps := ["word", "rows", "many", "width", "bound"]) fun _ _ _ _ _ _ us hl => len5_ (P := fun us => bindArgs _ ⟨us, []⟩ = pure (List.zip _ us)) (fun _ _ _ _ _ => rfl) us hl
 have D13 : ∃ fd, FD K pg fns gl fz 13 "check_each" f13 fd ["word", "rows", "many", "width", "bound"] := ⟨_, _, _, _, _, F13, sc13, e13, rfl, B13⟩
 have F14 := fun_mk (st := s14) l14 c14 k14
 have B14 := F14.binds (ps := ["rows"]) fun _ _ _ _ _ _ us hl => len1_ (P := fun us => bindArgs _ ⟨us, []⟩ = pure (List.zip _ us)) (fun _ => rfl) us hl
 have D14 : ∃ fd, FD K pg fns gl fz 14 "check_settled" f14 fd ["rows"] := ⟨_, _, _, _, _, F14, sc14, e14, rfl, B14⟩
 have F15 := fun_mk (st := s15) l15 c15 k15
 have B15 := F15.binds (ps := ["_law_script", "_law_k"]) fun _ _ _ _ _ _ us hl => len2_ (P := fun us => bindArgs _ ⟨us, []⟩ = pure (List.zip _ us)) (fun _ _ => rfl) us hl
 have D15 : ∃ fd, FD K pg fns gl fz 15 "_law_pot" f15 fd ["_law_script", "_law_k"] := ⟨_, _, _, _, _, F15, sc15, e15, rfl, B15⟩
 have F16 := fun_mk (st := s16) l16 c16 k16
 have B16 := F16.binds (ps := ["_law_pot_here", "_law_many"]) fun _ _ _ _ _ _ us hl => len2_ (P := fun us => bindArgs _ ⟨us, []⟩ = pure (List.zip _ us)) (fun _ _ => rfl) us hl
 have D16 : ∃ fd, FD K pg fns gl fz 16 "_law_draw" f16 fd ["_law_pot_here", "_law_many"] := ⟨_, _, _, _, _, F16, sc16, e16, rfl, B16⟩
 have F17 := fun_mk (st := s17) l17 c17 k17
 have B17 := F17.binds (ps := ["_law_pot_here", "_law_taken"]) fun _ _ _ _ _ _ us hl => len2_ (P := fun us => bindArgs _ ⟨us, []⟩ = pure (List.zip _ us)) (fun _ _ => rfl) us hl
 have D17 : ∃ fd, FD K pg fns gl fz 17 "_law_word" f17 fd ["_law_pot_here", "_law_taken"] := ⟨_, _, _, _, _, F17, sc17, e17, rfl, B17⟩
 have F18 := fun_mk (st := s18) l18 c18 k18
 have B18 := F18.binds (ps := ["_law_pot_here", "_law_many", "_law_taken"]) fun _ _ _ _ _ _ us hl => len3_ (P := fun us => bindArgs _ ⟨us, []⟩ = pure (List.zip _ us)) (fun _ _ _ => rfl) us hl
 have D18 : ∃ fd, FD K pg fns gl fz 18 "_law_words" f18 fd ["_law_pot_here", "_law_many", "_law_taken"] := ⟨_, _, _, _, _, F18, sc18, e18, rfl, B18⟩
 have F19 := fun_mk (st := s19) l19 c19 k19
 have B19 := F19.binds (ps := ["_law_pot_here", "_law_many", "_law_letters"]) fun _ _ _ _ _ _ us hl => len3_ (P := fun us => bindArgs _ ⟨us, []⟩ = pure (List.zip _ us)) (fun _ _ _ => rfl) us hl
 have D19 : ∃ fd, FD K pg fns gl fz 19 "_law_rows" f19 fd ["_law_pot_here", "_law_many", "_law_letters"] := ⟨_, _, _, _, _, F19, sc19, e19, rfl, B19⟩
 have F20 := fun_mk (st := s20) l20 c20 k20
 have B20 := F20.binds (ps := ["_law_pot_here"]) fun _ _ _ _ _ _ us hl => len1_ (P := fun us => bindArgs _ ⟨us, []⟩ = pure (List.zip _ us)) (fun _ => rfl) us hl
 have D20 : ∃ fd, FD K pg fns gl fz 20 "_law_table" f20 fd ["_law_pot_here"] := ⟨_, _, _, _, _, F20, sc20, e20, rfl, B20⟩
 have F21 := fun_mk (st := s21) l21 c21 k21
 have B21 := F21.binds (ps := ["_law_told"]) fun _ _ _ _ _ _ us hl => len1_ (P := fun us => bindArgs _ ⟨us, []⟩ = pure (List.zip _ us)) (fun _ => rfl) us hl
 have D21 : ∃ fd, FD K pg fns gl fz 21 "_law_copy" f21 fd ["_law_told"] := ⟨_, _, _, _, _, F21, sc21, e21, rfl, B21⟩
 have F22 := fun_mk (st := s22) l22 c22 k22
 have B22 := F22.binds (ps := ["_law_thing"]) fun _ _ _ _ _ _ us hl => len1_ (P := fun us => bindArgs _ ⟨us, []⟩ = pure (List.zip _ us)) (fun _ => rfl) us hl
 have D22 : ∃ fd, FD K pg fns gl fz 22 "_law_is_whole" f22 fd ["_law_thing"] := ⟨_, _, _, _, _, F22, sc22, e22, rfl, B22⟩
 have F23 := fun_mk (st := s23) l23 c23 k23
 have B23 := F23.binds (ps := ["_law_table_here", "_law_told"]) fun _ _ _ _ _ _ us hl => len2_ (P := fun us => bindArgs _ ⟨us, []⟩ = pure (List.zip _ us)) (fun _ _ => rfl) us hl
 have D23 : ∃ fd, FD K pg fns gl fz 23 "_law_agrees" f23 fd ["_law_table_here", "_law_told"] := ⟨_, _, _, _, _, F23, sc23, e23, rfl, B23⟩
 have F24 := fun_mk (st := s24) l24 c24 k24
 have B24 := F24.binds (ps := ["_law_many"]) fun _ _ _ _ _ _ us hl => len1_ (P := fun us => bindArgs _ ⟨us, []⟩ = pure (List.zip _ us)) (fun _ => rfl) us hl
 have D24 : ∃ fd, FD K pg fns gl fz 24 "_law_letters_right" f24 fd ["_law_many"] := ⟨_, _, _, _, _, F24, sc24, e24, rfl, B24⟩
 have F25 := fun_mk (st := s25) l25 c25 k25
 have B25 := F25.binds (ps := ["_law_handed"]) fun _ _ _ _ _ _ us hl => len1_ (P := fun us => bindArgs _ ⟨us, []⟩ = pure (List.zip _ us)) (fun _ => rfl) us hl
 have D25 : ∃ fd, FD K pg fns gl fz 25 "_law_spoil" f25 fd ["_law_handed"] := ⟨_, _, _, _, _, F25, sc25, e25, rfl, B25⟩
 have F26 := fun_mk (st := s26) l26 c26 k26
 have B26 := F26.binds (ps := ["_law_script"]) fun _ _ _ _ _ _ us hl => len1_ (P := fun us => bindArgs _ ⟨us, []⟩ = pure (List.zip _ us)) (fun _ => rfl) us hl
 have D26 : ∃ fd, FD K pg fns gl fz 26 "law" fa fd ["_law_script"] := ⟨_, _, _, _, _, F26, sc26, e26, rfl, B26⟩
 have hblt : ∀ x ∈ bnames, mg x = none := by
  intro x hx
  simp only [bnames, List.mem_cons, List.not_mem_nil, or_false] at hx
  rcases hx with rfl | rfl | rfl | rfl | rfl | rfl | rfl | rfl | rfl | rfl | rfl | rfl | rfl | rfl | rfl | rfl | rfl | rfl | rfl
  ·exact PySem.W.mg_none_of X G z_len
  ·exact PySem.W.mg_none_of X G z_abs
  ·exact PySem.W.mg_none_of X G z_max
  ·exact PySem.W.mg_none_of X G z_min
  ·exact PySem.W.mg_none_of X G z_divmod
  ·exact PySem.W.mg_none_of X G z_all
  ·exact PySem.W.mg_none_of X G z_any
  ·exact PySem.W.mg_none_of X G z_list
  ·exact PySem.W.mg_none_of X G z_tuple
  ·exact PySem.W.mg_none_of X G z_int
  ·exact PySem.W.mg_none_of X G z_bool
  ·exact PySem.W.mg_none_of X G z_str
  ·exact PySem.W.mg_none_of X G z_dict
  ·exact PySem.W.mg_none_of X G z_isinstance
  ·exact PySem.W.mg_none_of X G z_range
  ·exact PySem.W.mg_none_of X G z_enumerate
  ·exact PySem.W.mg_none_of X G z_zip
  ·exact PySem.W.mg_none_of X G z_sorted
  ·exact PySem.W.mg_none_of X G z_set
 have hgl : ∀ {x : Str} {w : W}, gl.lookup x = some w → ∃ u v, mg x = some u ∧ RelV v u ∧ ∀ β H, RW K β H w v := by
  intro x w hx
  have hm := lookup_mem hx
  simp only [gl, List.mem_cons, Prod.mk.injEq, List.not_mem_nil, or_false] at hm
  rcases hm with ⟨rfl, rfl⟩ | ⟨rfl, rfl⟩ | ⟨rfl, rfl⟩ | ⟨rfl, rfl⟩ | ⟨rfl, rfl⟩
  ·exact ⟨_, .int _, PySem.W.mg_of X G y0, ⟨_, rfl⟩, fun _ _ => .int _⟩
  ·exact ⟨_, .int _, PySem.W.mg_of X G y1, ⟨_, rfl⟩, fun _ _ => .int _⟩
  ·exact ⟨_, .int _, PySem.W.mg_of X G y2, ⟨_, rfl⟩, fun _ _ => .int _⟩
  ·exact ⟨_, .int _, PySem.W.mg_of X G y3, ⟨_, rfl⟩, fun _ _ => .int _⟩
  ·exact ⟨_, .int _, PySem.W.mg_of X G y4, ⟨_, rfl⟩, fun _ _ => .int _⟩
 have hF : ∀ {x : Str} {i np : Nat}, fns.lookup x = some (i, np) → ∃ f fd ps, ps.length = np ∧ FD K pg fns gl fz i x f fd ps ∧ mg x = some (.ref f) := by
  intro x i np hx
  have hm := lookup_mem hx
  simp only [fns, List.mem_cons, Prod.mk.injEq, List.not_mem_nil, or_false] at hm
  rcases hm with ⟨rfl, rfl, rfl⟩ | ⟨rfl, rfl, rfl⟩ | ⟨rfl, rfl, rfl⟩ | ⟨rfl, rfl, rfl⟩ | ⟨rfl, rfl, rfl⟩ | ⟨rfl, rfl, rfl⟩ | ⟨rfl, rfl, rfl⟩ | ⟨rfl, rfl, rfl⟩ | ⟨rfl, rfl, rfl⟩ | ⟨rfl, rfl, rfl⟩ | ⟨rfl, rfl, rfl⟩ | ⟨rfl, rfl, rfl⟩ | ⟨rfl, rfl, rfl⟩ | ⟨rfl, rfl, rfl⟩ | ⟨rfl, rfl, rfl⟩ | ⟨rfl, rfl, rfl⟩ | ⟨rfl, rfl, rfl⟩ | ⟨rfl, rfl, rfl⟩ | ⟨rfl, rfl, rfl⟩ | ⟨rfl, rfl, rfl⟩
  ·obtain ⟨fd, z⟩ := D0; exact ⟨_, fd, _, rfl, z, PySem.W.mg_of X G a0⟩
  ·obtain ⟨fd, z⟩ := D1; exact ⟨_, fd, _, rfl, z, PySem.W.mg_of X G a1⟩
  ·obtain ⟨fd, z⟩ := D9; exact ⟨_, fd, _, rfl, z, PySem.W.mg_of X G a9⟩
  ·obtain ⟨fd, z⟩ := D10; exact ⟨_, fd, _, rfl, z, PySem.W.mg_of X G a10⟩
  ·obtain ⟨fd, z⟩ := D11; exact ⟨_, fd, _, rfl, z, PySem.W.mg_of X G a11⟩
  ·obtain ⟨fd, z⟩ := D12; exact ⟨_, fd, _, rfl, z, PySem.W.mg_of X G a12⟩
  ·obtain ⟨fd, z⟩ := D13; exact ⟨_, fd, _, rfl, z, PySem.W.mg_of X G a13⟩
  ·obtain ⟨fd, z⟩ := D14; exact ⟨_, fd, _, rfl, z, PySem.W.mg_of X G a14⟩
  ·obtain ⟨fd, z⟩ := D15; exact ⟨_, fd, _, rfl, z, PySem.W.mg_of X G a15⟩
  ·obtain ⟨fd, z⟩ := D16; exact ⟨_, fd, _, rfl, z, PySem.W.mg_of X G a16⟩
  ·obtain ⟨fd, z⟩ := D17; exact ⟨_, fd, _, rfl, z, PySem.W.mg_of X G a17⟩
  ·obtain ⟨fd, z⟩ := D18; exact ⟨_, fd, _, rfl, z, PySem.W.mg_of X G a18⟩
  ·obtain ⟨fd, z⟩ := D19; exact ⟨_, fd, _, rfl, z, PySem.W.mg_of X G a19⟩
  ·obtain ⟨fd, z⟩ := D20; exact ⟨_, fd, _, rfl, z, PySem.W.mg_of X G a20⟩
  ·obtain ⟨fd, z⟩ := D21; exact ⟨_, fd, _, rfl, z, PySem.W.mg_of X G a21⟩
  ·obtain ⟨fd, z⟩ := D22; exact ⟨_, fd, _, rfl, z, PySem.W.mg_of X G a22⟩
  ·obtain ⟨fd, z⟩ := D23; exact ⟨_, fd, _, rfl, z, PySem.W.mg_of X G a23⟩
  ·obtain ⟨fd, z⟩ := D24; exact ⟨_, fd, _, rfl, z, PySem.W.mg_of X G a24⟩
  ·obtain ⟨fd, z⟩ := D25; exact ⟨_, fd, _, rfl, z, PySem.W.mg_of X G a25⟩
  ·obtain ⟨fd, z⟩ := D26; exact ⟨_, fd, _, rfl, z, PySem.W.mg_of X G a26⟩
 have hM : ∀ {c x : Str} {i : Nat}, pg.cs.mths.lookup (c, x) = some i → ∃ f fd ps, FD K pg fns gl fz i x f fd ps ∧ Cls K (clsOf K c) ∧ Meth K (clsOf K c) x f := by
  intro c x i hx
  have hm := mem_lookup2 hx
  simp only [pg, cs, List.mem_cons, Prod.mk.injEq, List.not_mem_nil, or_false] at hm
  rcases hm with ⟨⟨rfl, rfl⟩, rfl⟩ | ⟨⟨rfl, rfl⟩, rfl⟩ | ⟨⟨rfl, rfl⟩, rfl⟩ | ⟨⟨rfl, rfl⟩, rfl⟩ | ⟨⟨rfl, rfl⟩, rfl⟩ | ⟨⟨rfl, rfl⟩, rfl⟩
  ·obtain ⟨fd, z⟩ := D3; exact ⟨_, fd, _, z, cl_Table, by rw [hC_Table]; exact ⟨a3, i3, k3⟩⟩
  ·obtain ⟨fd, z⟩ := D4; exact ⟨_, fd, _, z, cl_Table, by rw [hC_Table]; exact ⟨a4, i4, k4⟩⟩
  ·obtain ⟨fd, z⟩ := D5; exact ⟨_, fd, _, z, cl_Table, by rw [hC_Table]; exact ⟨a5, i5, k5⟩⟩
  ·obtain ⟨fd, z⟩ := D6; exact ⟨_, fd, _, z, cl_Table, by rw [hC_Table]; exact ⟨a6, i6, k6⟩⟩
  ·obtain ⟨fd, z⟩ := D7; exact ⟨_, fd, _, z, cl_Table, by rw [hC_Table]; exact ⟨a7, i7, k7⟩⟩
  ·obtain ⟨fd, z⟩ := D8; exact ⟨_, fd, _, z, cl_Table, by rw [hC_Table]; exact ⟨a8, i8, k8⟩⟩
 have hI : ∀ {c : Str} {i : Nat}, pg.cs.ini.lookup c = some i → ∃ f fd ps, FD K pg fns gl fz i "__init__" f fd ps ∧ Mk K (clsOf K c) f ∧ mg c = some (.ref (clsOf K c)) := by
  intro c i hx
  have hm := lookup_mem hx
  simp only [pg, cs, List.mem_cons, Prod.mk.injEq, List.not_mem_nil, or_false] at hm
  rcases hm with ⟨rfl, rfl⟩
  ·obtain ⟨fd, z⟩ := D2; exact ⟨_, fd, _, z, by rw [hC_Table]; exact ⟨mk_Table, a2, i2, kc_Table⟩, by rw [hC_Table]; exact PySem.W.mg_of X G aC_Table⟩
 have hFl : ∀ {c x : Str}, pg.cs.flds.contains (c, x) = true → Cls K (clsOf K c) ∧ NoAttr K (clsOf K c) x := by
  intro c x hx
  have hm := List.contains_iff_mem.mp hx
  simp only [pg, cs, List.mem_cons, Prod.mk.injEq, List.not_mem_nil, or_false] at hm
  rcases hm with ⟨rfl, rfl⟩ | ⟨rfl, rfl⟩ | ⟨rfl, rfl⟩ | ⟨rfl, rfl⟩ | ⟨rfl, rfl⟩
  ·exact ⟨cl_Table, by rw [hC_Table]; exact n0_Table⟩
  ·exact ⟨cl_Table, by rw [hC_Table]; exact n1_Table⟩
  ·exact ⟨cl_Table, by rw [hC_Table]; exact n2_Table⟩
  ·exact ⟨cl_Table, by rw [hC_Table]; exact n3_Table⟩
  ·exact ⟨cl_Table, by rw [hC_Table]; exact n4_Table⟩
 refine ⟨PySem.W.fnOf "law" "law" (defArgs s26) (defBody s26) (defScope s26) .none kV26 dc26 pm26 an26 cd26 ct26, fun s v => .of_eq rfl, fun base _ _ => ?_⟩
 exact sound (fns := fns) (gl := gl) (fz := fz) ⟨hblt, hgl, hF, hM, hI, hFl⟩ 40 (x := "law") ⟨_, _, _, _, F26, sc26, e26, rfl, B26⟩
end My
end
section
set_option Elab.async false
set_option linter.all false
set_option maxRecDepth 1000000
set_option maxHeartbeats 4000000
namespace My
open PySem D
structure Wd (z : Str) : Prop where
 lo : 1 ≤ z.cps.size
 hi : z.cps.size ≤ 8
 az : ∀ c ∈ z.cps.toList, 97 ≤ c ∧ c ≤ 122
theorem slen (z : Str) : z.length = z.cps.size := rfl
theorem Wd.asc {z : Str} (h : Wd z) : L2.asc z = true := by
 unfold L2.asc
 rw [Array.all_eq_true]
 intro i hi
 have := h.az z.cps[i] (by simp)
 simp
 omega
theorem leA {c : Nat} (h : 97 ≤ c ∧ c ≤ 122) : cmpop .LtE (.str "a") (.str ⟨#[c]⟩) = fun m => .ok true m := by
 funext m
 have : ¬ [c] < [97] := by simp [List.cons_lt_cons_iff]; omega
 simp [cmpop]
 exact this
theorem leZ {c : Nat} (h : 97 ≤ c ∧ c ≤ 122) : cmpop .LtE (.str ⟨#[c]⟩) (.str "z") = fun m => .ok true m := by
 funext m
 have : ¬ [122] < [c] := by simp [List.cons_lt_cons_iff]; omega
 simp [cmpop]
 exact this
theorem is_word {n : Nat} {z : Str} (h : Wd z) : D.runN pg (n + 1) 1 [.str z] [] = .ok (.bl true) [] := by
 refine run_rt (d := ⟨1, 2, b1⟩) rfl rfl ?_
 show evSs _ b1 [some (.str z), none] [] = _
 have hI : evI (Cn pg n) (.var 0) [some (.str z), none] [] = .ok (.tup (signs z)) [] := by simp [sI_rng, sI_enm, sI_var, sI_cst, sI_bin, sI_neg, sI_not, sI_and, sI_or, sI_cmp, sI_chain, sI_ife, sI_tup, sI_lst, sI_idx, sI_slc, sI_call, sI_blt, sI_isI, sI_meth, sI_comp, sI_lrng, sI_frz, sI_fld, sI_make, sI_mth, sI_set0, sI_sset, R.bind, toI, srcT, h.asc]
 obtain ⟨ρ', hc⟩ := comp_map (C := Cn pg n) (i := 1) (e := .chain .LtE .LtE (.cst (.str "a")) (.var 1) (.cst (.str "z"))) (ρ := [some (.str z), none]) (m := []) (xs := signs z) (g := fun _ => .bl true) (fun x hx => by
  obtain ⟨c, hc, rfl⟩ := List.mem_map.mp hx
  have := h.az c hc
  simp [sE_var, sE_cst, sE_bin, sE_neg, sE_not, sE_and, sE_or, sE_cmp, sE_chain, sE_ife, sE_tup, sE_lst, sE_idx, sE_slc, sE_call, sE_blt, sE_isI, sE_meth, sE_comp, sE_lrng, sE_frz, sE_fld, sE_make, sE_mth, sE_set0, sE_sset, R.bind, leA this, leZ this]) (by have := h.hi; simp [signs, lim]; omega)
 have hf := frz_new (C := Cn pg n) (m := []) (m0 := []) (comp_ok (js := [1]) (ifs := .nil) hI hc) rfl Cm.nil (by rw [map_rep]; exact pureWs_all.mpr fun x hx => by rw [(List.mem_replicate.mp hx).2]; rfl)
 rw [b1, seq_rt (ret_ok (w := .bl true) (m1 := []) ?_)]
 have h1 : (1 : Int) ≤ z.length := by have := h.lo; rw [slen]; omega
 have h2 : (z.length : Int) ≤ 8 := by have := h.hi; rw [slen]; omega
 have h3 : z.length ≤ lim := by have := h.hi; rw [slen]; simp [lim]; omega
 have hb : bools ((signs z).map fun _ => W.bl true) = some (List.replicate (signs z).length true) := by rw [map_rep]; exact bools_true _
 simp [E_var, E_cst, E_bin, E_not, E_and, E_cmp, E_chain, E_ife, E_tup, E_lst, E_idx, E_slc, E_callN, E_blt, E_isI, E_meth, E_fldN, E_make, E_mthN, E_set0, Es_nil, Es_cons, O_none, O_some, B_ok, bltop, h3, cmpop, h1, h2, hf, getL, hb]
theorem memK_strs {z : Str} {ws : List Str} (h : z ∉ ws) : memK (.inr z) (ws.map Sum.inr) = false := by
 simp only [memK, List.any_map, Function.comp_def]
 rw [List.any_eq_false]
 intro x hx
 simp only [decide_eq_true_eq, Sum.inr.injEq]
 rintro rfl
 exact h hx
theorem first_wrong_word {n : Nat} {ws : List Str} (hw : ∀ z ∈ ws, Wd z) (hn : ws.Nodup) (hl : ws.length ≤ 100) {M : Mem} : callP (D.runN pg (n + 1 + 1) 0) [.fz (ws.map .str)] M = .ok .non M := by
 have hI : evI (Cn pg (n + 1)) (.enm (.var 0)) [some (.fz (ws.map .str)), some (.ref 0), none, none] [.set []] = .ok (.enm (.tup (ws.map .str))) [.set []] := by simp [sI_rng, sI_enm, sI_var, sI_cst, sI_bin, sI_neg, sI_not, sI_and, sI_or, sI_cmp, sI_chain, sI_ife, sI_tup, sI_lst, sI_idx, sI_slc, sI_call, sI_blt, sI_isI, sI_meth, sI_comp, sI_lrng, sI_frz, sI_fld, sI_make, sI_mth, sI_set0, sI_sset, E_var, E_cst, E_bin, E_not, E_and, E_cmp, E_chain, E_ife, E_tup, E_lst, E_idx, E_slc, E_callN, E_blt, E_isI, E_meth, E_fldN, E_make, E_mthN, E_set0, Es_nil, Es_cons, O_none, O_some, B_ok, srcOf]
 obtain ⟨ρ', m', hf, _⟩ := for_inv (t := .tup (.cons (.var 2) (.cons (.var 3) .nil))) (b := b0_1) (n := ws.length) hI (by simp [Src.len])
  (fun i ρ m => m = [.set ((ws.take i).map Sum.inr)] ∧ ∃ o2 o3, ρ = [some (.fz (ws.map .str)), some (.ref 0), o2, o3]) ⟨rfl, _, _, rfl⟩ (fun i ρ m hi => by
   rintro ⟨rfl, o2, o3, rfl⟩
   have hz := hw ws[i] (List.getElem_mem hi)
   refine ⟨.tup [.int i, .str ws[i]], [some (.fz (ws.map .str)), some (.ref 0), some (.int i), some (.str ws[i])], [some (.fz (ws.map .str)), some (.ref 0), some (.int i), some (.str ws[i])], [.set ((ws.take (i + 1)).map Sum.inr)], ?_, by simp [bindT, bindTs], .inl ?_, rfl, _, _, rfl⟩
   ·rw [get_enm_it (w := .str ws[i])]
    rw [get_tup_it (by simpa using hi)]
    simp
   ·have hc : ∀ m, callP (D.runN pg (n + 1) 1) [.str ws[i]] m = .ok (.bl true) m := fun m => callP_pure rfl (is_word hz) rfl
    have hk : memK (.inr ws[i]) ((ws.take i).map Sum.inr) = false := memK_strs (notin_take hn hi)
    have ht : ws.take (i + 1) = ws.take i ++ [ws[i]] := by rw [List.take_add_one, List.getElem?_eq_getElem hi]; rfl
    have hlt : min i ws.length < 4000 := by omega
    have h1 : evT (Cn pg (n + 1)) (.or (.not (.call 1 (.cons (.var 3) .nil))) (.cmp .In (.var 3) (.var 1))) [some (.fz (ws.map .str)), some (.ref 0), some (.int i), some (.str ws[i])] [.set ((ws.take i).map Sum.inr)] = .ok false [.set ((ws.take i).map Sum.inr)] := by
     simp only [E_var, E_cst, E_bin, E_not, E_and, E_cmp, E_chain, E_ife, E_tup, E_lst, E_idx, E_slc, E_callN, E_blt, E_isI, E_meth, E_fldN, E_make, E_mthN, E_set0, Es_nil, Es_cons, O_none, O_some, B_ok, T_call, T_blt, T_isI, T_or, T_not, T_cmp, T_chain, List.getElem?_cons_zero, List.getElem?_cons_succ, List.set_cons_zero, List.set_cons_succ, hc, D.truthy, cmpop, inop, keyW, hk, Bool.not_true, Bool.false_eq_true, if_false]
    have h2 : evE (Cn pg (n + 1)) (.meth (.var 1) "add" (.cons (.var 3) .nil)) [some (.fz (ws.map .str)), some (.ref 0), some (.int i), some (.str ws[i])] [.set ((ws.take i).map Sum.inr)] = .ok .non [.set ((ws.take (i + 1)).map Sum.inr)] := by
     have e1 : kdM "add" = .set := by decide
     have e2 : ((ws.take i).map Sum.inr : List L2.Key).length < 4000 := by rw [List.length_map, List.length_take]; exact hlt
     simp only [E_var, E_cst, E_bin, E_not, E_and, E_cmp, E_chain, E_ife, E_tup, E_lst, E_idx, E_slc, E_callN, E_blt, E_isI, E_meth, E_fldN, E_make, E_mthN, E_set0, Es_nil, Es_cons, O_none, O_some, B_ok, List.getElem?_cons_zero, List.getElem?_cons_succ, List.set_cons_zero, List.set_cons_succ, kdOf, e1, if_true, methop, setMeth, opAdd, keyW, hk, e2, Bool.false_eq_true, if_false]
     rw [ht, List.map_append]
     rfl
    rw [b0_1, seq_nx (ρ1 := [some (.fz (ws.map .str)), some (.ref 0), some (.int i), some (.str ws[i])]) (by rw [if_f h1, ss_nil']), seq_nx (expr_ok h2), ss_nil'])
  (fun ρ m _ => by rw [get_enm_fin]; exact get_tup_fin (by simp))
 refine callP_pure (m1 := m') (by simp [pureWs, pureW, pureS]) (run_rt (d := ⟨1, 4, b0⟩) rfl rfl ?_) rfl
 show evSs _ b0 [some (.fz (ws.map .str)), none, none, none] [] = _
 rw [b0, seq_nx (ρ1 := [some (.fz (ws.map .str)), some (.ref 0), none, none]) (asg_to (w := .ref 0) (m1 := [.set []]) (by simp [E_var, E_cst, E_bin, E_not, E_and, E_cmp, E_chain, E_ife, E_tup, E_lst, E_idx, E_slc, E_callN, E_blt, E_isI, E_meth, E_fldN, E_make, E_mthN, E_set0, Es_nil, Es_cons, O_none, O_some, B_ok, new]) rfl), seq_nx hf, seq_rt (ret_ok (w := .non) (m1 := m') (by simp [E_var, E_cst, E_bin, E_not, E_and, E_cmp, E_chain, E_ife, E_tup, E_lst, E_idx, E_slc, E_callN, E_blt, E_isI, E_meth, E_fldN, E_make, E_mthN, E_set0, Es_nil, Es_cons, O_none, O_some, B_ok]))]
theorem count_letters {n : Nat} {m : Mem} {w : W} {xs : List W} (h : getS m w = some xs) (hl : xs.length ≤ 1000) : callP (D.runN pg (n + 1) 10) [w] m = .ok (.int (2 ^ xs.length : Nat)) m := by
 have go : ∀ M, getS M w = some xs → D.runN pg (n + 1) 10 [w] M = .ok (.int (2 ^ xs.length : Nat)) M := fun M h => by
  refine run_rt (d := ⟨1, 1, b10⟩) rfl rfl ?_
  show evSs _ b10 [some w] M = _
  have hc : (0 : Int) ≤ xs.length ∧ (xs.length : Int) ≤ 1000000 ∧ (1 : Int).natAbs < 2 ^ 64 := ⟨by omega, by omega, by decide⟩
  rw [b10, seq_rt (ret_ok (w := .int (2 ^ xs.length : Nat)) (m1 := M) ?_)]
  simp only [E_var, E_cst, E_bin, E_not, E_and, E_cmp, E_chain, E_ife, E_tup, E_lst, E_idx, E_slc, E_callN, E_blt, E_isI, E_meth, E_fldN, E_make, E_mthN, E_set0, Es_nil, Es_cons, O_none, O_some, B_ok, List.getElem?_cons_zero, List.getElem?_cons_succ, List.set_cons_zero, List.set_cons_succ, len_of h, binop]
  rw [if_pos hc]
  simp
 exact callP_inv (go m h) (fun hp => go [] (by rw [getS_pure (m := m) (by simpa [pureWs] using hp)]; exact h)) rfl
theorem check_many {n : Nat} {m : Mem} {k s l : W} {ks ss ls : List W} (hk : getS m k = some ks) (hs : getS m s = some ss) (hl : getS m l = some ls) (h1 : ks.length ≤ 2) (h2 : 2 ≤ ss.length) (h3 : ss.length ≤ 4) (h4 : ls.length ≤ 2) : callP (D.runN pg (n + 1) 12) [k, s, l] m = .ok .non m := by
 have go : ∀ M, getS M k = some ks → getS M s = some ss → getS M l = some ls → D.runN pg (n + 1) 12 [k, s, l] M = .ok .non M := fun M hk hs hl => by
  refine run_nx (d := ⟨3, 3, b12⟩) (ρ := [some k, some s, some l]) rfl rfl ?_
  show evSs _ b12 [some k, some s, some l] M = _
  have e1 : ¬ (2 : Int) < ks.length := by omega
  have e2 : (2 : Int) ≤ ss.length := by omega
  have e3 : (ss.length : Int) ≤ 4 := by omega
  have e4 : ¬ (2 : Int) < ls.length := by omega
  simp only [b12, sSs_nil, sSs_cons, sS_asg, sS_expr, sS_ret, sS_retN, sS_ife, sS_for_, sS_pass, sS_brk, sS_cont, sS_never, sS_fas, E_var, E_cst, E_bin, E_not, E_and, E_cmp, E_chain, E_ife, E_tup, E_lst, E_idx, E_slc, E_callN, E_blt, E_isI, E_meth, E_fldN, E_make, E_mthN, E_set0, Es_nil, Es_cons, O_none, O_some, B_ok, T_call, T_blt, T_isI, T_or, T_not, T_cmp, T_chain, List.getElem?_cons_zero, List.getElem?_cons_succ, List.set_cons_zero, List.set_cons_succ, len_of hk, len_of hs, len_of hl, cmpop, e1, e2, e3, e4, decide_true, decide_false, if_true, if_false, Bool.false_eq_true, Bool.not_true]
 refine callP_inv (go m hk hs hl) (fun hp => ?_) rfl
 simp only [pureWs, Bool.and_eq_true, Bool.and_true] at hp
 exact go [] (by rw [getS_pure (m := m) hp.1]; exact hk) (by rw [getS_pure (m := m) hp.2.1]; exact hs) (by rw [getS_pure (m := m) hp.2.2]; exact hl)
end My
end
section
set_option Elab.async false
set_option linter.all false
set_option maxRecDepth 1000000
set_option maxHeartbeats 4000000
namespace My
open PySem D
noncomputable def RowOk (m : Mem) (width : Nat) (bound : Int) (r : W) : Prop := ∃ ns : List Int, getS m r = some (ns.map .int) ∧ ns.length = width ∧ ∀ x ∈ ns, 0 ≤ x ∧ x < bound
theorem check_each {n : Nat} {m : Mem} {word : Str} {rowsW : W} {rws : List W} {many width : Nat} {bound : Int} (hm : Cm m) (hr : getS m rowsW = some rws) (hl : rws.length = many) (hb : many ≤ 100) (hwd : width ≤ 100) (h : ∀ r ∈ rws, RowOk m width bound r) (hp0 : pureW rowsW = true → ∀ r ∈ rws, pureW r = true) :
  callP (D.runN pg (n + 1) 13) [.str word, rowsW, .int many, .int width, .int bound] m = .ok .non m := by
 have go : ∀ M, Cm M → getS M rowsW = some rws → (∀ r ∈ rws, RowOk M width bound r) → D.runN pg (n + 1) 13 [.str word, rowsW, .int many, .int width, .int bound] M = .ok .non M := fun M hm hr h => by
  obtain ⟨ρ', m', hf, rfl, o5, o6, rfl⟩ := for_inv (C := Cn pg n) (t := .var 5) (it := .rng (.var 2)) (b := b13_1) (ρ := [some (.str word), some rowsW, some (.int many), some (.int width), some (.int bound), none, none]) (m := M) (m1 := M) (s := .rng 0 many) (n := many) (rngI (by simp only [E_var, E_cst, E_bin, E_not, E_and, E_cmp, E_chain, E_ife, E_tup, E_lst, E_idx, E_slc, E_callN, E_blt, E_isI, E_meth, E_fldN, E_make, E_mthN, E_set0, Es_nil, Es_cons, O_none, O_some, B_ok, List.getElem?_cons_zero, List.getElem?_cons_succ, List.set_cons_zero, List.set_cons_succ]) (by omega)) rfl
   (fun i ρ m => m = M ∧ ∃ o5 o6, ρ = [some (.str word), some rowsW, some (.int many), some (.int width), some (.int bound), o5, o6]) ⟨rfl, _, _, rfl⟩ (fun i ρ m hi => by
    rintro ⟨rfl, o5, o6, rfl⟩
    have hi' : i < rws.length := by omega
    obtain ⟨ns, g1, g2, g3⟩ := h rws[i] (List.getElem_mem hi')
    obtain ⟨s, s1, s2, s3⟩ := toI_of g1
    refine ⟨.int i, [some (.str word), some rowsW, some (.int many), some (.int width), some (.int bound), some (.int i), o6], [some (.str word), some rowsW, some (.int many), some (.int width), some (.int bound), some (.int i), o6], m, ?_, by simp [bindT], .inl ?_, rfl, _, _, rfl⟩
    ·rw [get_rng_it hi]; simp
    ·have e1 : evE (Cn pg n) (.idx (.var 1) (.var 5)) [some (.str word), some rowsW, some (.int many), some (.int width), some (.int bound), some (.int i), o6] m = .ok rws[i] m := by simp only [E_var, E_cst, E_bin, E_not, E_and, E_cmp, E_chain, E_ife, E_tup, E_lst, E_idx, E_slc, E_callN, E_blt, E_isI, E_meth, E_fldN, E_make, E_mthN, E_set0, Es_nil, Es_cons, O_none, O_some, B_ok, List.getElem?_cons_zero, List.getElem?_cons_succ, List.set_cons_zero, List.set_cons_succ, idx_of hr hi']
     have e2 := all_comp (C := Cn pg n) (m := m) (i := 6) (e := .chain .LtE .Lt (.cst (.int 0)) (.var 6) (.var 4)) (it := .idx (.var 1) (.var 5)) (js := [6]) (ρ := [some (.str word), some rowsW, some (.int many), some (.int width), some (.int bound), some (.int i), o6]) hm (by rw [I_idx, e1]; exact s1) s2 s3 (by rw [List.length_map, g2]; simp [lim]; omega) (fun x hx => by
      obtain ⟨z, hz, rfl⟩ := List.mem_map.mp hx
      obtain ⟨z1, z2⟩ := g3 z hz
      simp only [clr, E_var, E_cst, E_bin, E_not, E_and, E_cmp, E_chain, E_ife, E_tup, E_lst, E_idx, E_slc, E_callN, E_blt, E_isI, E_meth, E_fldN, E_make, E_mthN, E_set0, Es_nil, Es_cons, O_none, O_some, B_ok, List.getElem?_cons_zero, List.getElem?_cons_succ, List.set_cons_zero, List.set_cons_succ, cmpop, z1, z2, decide_true, if_true])
     have f1 : ¬ (rws.length : Int) ≤ i := by omega
     have f2 : eqW m (.int ns.length) (.int width) = .ok true m := by simp [eqW, toD, g2, PyData.eqv]
     have t1 : evE (Cn pg n) (.blt .len (.cons (.var 1) .nil)) [some (.str word), some rowsW, some (.int many), some (.int width), some (.int bound), some (.int i), o6] m = .ok (.int rws.length) m := by simp only [E_var, E_cst, E_bin, E_not, E_and, E_cmp, E_chain, E_ife, E_tup, E_lst, E_idx, E_slc, E_callN, E_blt, E_isI, E_meth, E_fldN, E_make, E_mthN, E_set0, Es_nil, Es_cons, O_none, O_some, B_ok, List.getElem?_cons_zero, List.getElem?_cons_succ, List.set_cons_zero, List.set_cons_succ, len_of hr]
     have t2 : evE (Cn pg n) (.blt .len (.cons (.idx (.var 1) (.var 5)) .nil)) [some (.str word), some rowsW, some (.int many), some (.int width), some (.int bound), some (.int i), o6] m = .ok (.int ns.length) m := by rw [E_blt, Es_cons, e1]; simp only [B_ok, Es_nil, len_of g1, List.length_map]
     have ht : evT (Cn pg n) (.or (.cmp .GtE (.var 5) (.blt .len (.cons (.var 1) .nil))) (.or (.cmp .NotEq (.blt .len (.cons (.idx (.var 1) (.var 5)) .nil)) (.var 3)) (.not (.blt .all (.cons (.frz (.comp (.gen (.var 6) [6] (.idx (.var 1) (.var 5)) .nil (.elt (.chain .LtE .Lt (.cst (.int 0)) (.var 6) (.var 4)))))) .nil))))) [some (.str word), some rowsW, some (.int many), some (.int width), some (.int bound), some (.int i), o6] m = .ok false m := by
      simp only [T_or, T_cmp, T_not, T_blt, E_var, List.getElem?_cons_zero, List.getElem?_cons_succ, List.set_cons_zero, List.set_cons_succ, B_ok, t1, t2, e2, cmpop, f1, f2, decide_false, Bool.false_eq_true, if_false, Bool.not_true, D.truthy]
     rw [b13_1, seq_nx (ρ1 := [some (.str word), some rowsW, some (.int many), some (.int width), some (.int bound), some (.int i), o6]) (by rw [if_f ht, ss_nil']), ss_nil'])
   (fun ρ m _ => get_rng_fin (by omega))
  refine run_nx (d := ⟨5, 7, b13⟩) (ρ := [some (.str word), some rowsW, some (.int many), some (.int width), some (.int bound), o5, o6]) rfl rfl ?_
  show evSs _ b13 [some (.str word), some rowsW, some (.int many), some (.int width), some (.int bound), none, none] m' = _
  have ht : evT (Cn pg n) (.cmp .Gt (.blt .len (.cons (.var 1) .nil)) (.var 2)) [some (.str word), some rowsW, some (.int many), some (.int width), some (.int bound), o5, o6] m' = .ok false m' := by
   have f1 : ¬ (many : Int) < rws.length := by omega
   simp only [E_var, E_cst, E_bin, E_not, E_and, E_cmp, E_chain, E_ife, E_tup, E_lst, E_idx, E_slc, E_callN, E_blt, E_isI, E_meth, E_fldN, E_make, E_mthN, E_set0, Es_nil, Es_cons, O_none, O_some, B_ok, T_call, T_blt, T_isI, T_or, T_not, T_cmp, T_chain, List.getElem?_cons_zero, List.getElem?_cons_succ, List.set_cons_zero, List.set_cons_succ, len_of hr, cmpop, f1, decide_false]
  rw [b13, seq_nx hf, seq_nx (ρ1 := [some (.str word), some rowsW, some (.int many), some (.int width), some (.int bound), o5, o6]) (by rw [if_f ht, ss_nil']), ss_nil']
 refine callP_inv (go m hm hr h) (fun hp => ?_) rfl
 simp only [pureWs, Bool.and_eq_true] at hp
 refine go [] Cm.nil (by rw [getS_pure (m := m) hp.2.1]; exact hr) fun r hr' => ?_
 obtain ⟨ns, g1, g2⟩ := h r hr'
 exact ⟨ns, by rw [getS_pure (m := m) (hp0 hp.2.1 r hr')]; exact g1, g2⟩
end My
end
section
set_option Elab.async false
set_option linter.all false
set_option maxRecDepth 1000000
set_option maxHeartbeats 4000000
namespace My
open PySem D
structure Rows (m : Mem) (w : W) (rws : List W) (R : List (List Int)) : Prop where
 at_ : getL m w = some rws
 len : rws.length = R.length
 row : ∀ (i : Nat) (h : i < rws.length) (h' : i < R.length), getS m rws[i] = some (R[i].map .int)
 pur : pureW w = true → ∀ r ∈ rws, pureW r = true
theorem Rows.pure {m : Mem} {w : W} {rws : List W} {R : List (List Int)} (h : Rows m w rws R) (hp : pureW w = true) : Rows [] w rws R :=
 ⟨by rw [getL_pure (m := m) hp]; exact h.at_, h.len, fun i h1 h2 => by rw [getS_pure (m := m) (h.pur hp _ (List.getElem_mem h1))]; exact h.row i h1 h2, h.pur⟩
theorem Rows.app {m l : Mem} {w : W} {rws : List W} {R : List (List Int)} (h : Rows m w rws R) : Rows (m ++ l) w rws R := by
 refine ⟨?_, h.len, fun i h1 h2 => getS_set (h.row i h1 h2), h.pur⟩
 have := getS_set (l := l) (getL_S h.at_)
 cases w with
 | tup ys => have := h.at_; cases this
 | _ => exact this
theorem Rows.each {m : Mem} {w : W} {rws : List W} {R : List (List Int)} {width : Nat} {bound : Int} (h : Rows m w rws R) (hR : ∀ ns ∈ R, ns.length = width ∧ ∀ x ∈ ns, 0 ≤ x ∧ x < bound) : ∀ r ∈ rws, RowOk m width bound r := fun r hr => by
 obtain ⟨i, hi, rfl⟩ := List.mem_iff_getElem.mp hr
 have hi' : i < R.length := by rw [← h.len]; exact hi
 obtain ⟨h1, h2⟩ := hR R[i] (List.getElem_mem hi')
 exact ⟨R[i], h.row i hi hi', h1, h2⟩
noncomputable def Settled (R : List (List Int)) : Prop := ∀ (i : Nat) (hi : i < R.length) (x : Nat) (hx : x < R[i].length), ∃ (k : Nat) (hk : k < R.length) (hx' : x < R[k].length), R[i][x] = k ∧ R[k][x] = k
theorem eqI {m : Mem} {a b : Int} : eqW m (.int a) (.int b) = .ok (decide (a = b)) m := by
 simp [eqW, toD, PyData.eqv]
 by_cases h : a = b <;> simp [h]
theorem check_settled {n : Nat} {m : Mem} {w : W} {rws : List W} {R : List (List Int)} (hm : Cm m) (h : Rows m w rws R) (hs : Settled R) (hl : ∀ ns ∈ R, ns.length ≤ 1000) : callP (D.runN pg (n + 1) 14) [w] m = .ok .non m := by
 have go : ∀ M, Cm M → Rows M w rws R → D.runN pg (n + 1) 14 [w] M = .ok .non M := fun M hm h => by
  obtain ⟨s, s1, s2, s3⟩ := src_getS (getL_S h.at_)
  obtain ⟨ρ', m', hf, rfl, o1, o2, o3, o4, rfl⟩ := for_inv (C := Cn pg n) (t := .tup (.cons (.var 1) (.cons (.var 2) .nil))) (it := .enm (.var 0)) (b := b14_1) (ρ := [some w, none, none, none, none]) (m := M) (m1 := M) (s := .enm s) (n := rws.length) (by simp only [sI_rng, sI_enm, sI_var, sI_cst, sI_bin, sI_neg, sI_not, sI_and, sI_or, sI_cmp, sI_chain, sI_ife, sI_tup, sI_lst, sI_idx, sI_slc, sI_call, sI_blt, sI_isI, sI_meth, sI_comp, sI_lrng, sI_frz, sI_fld, sI_make, sI_mth, sI_set0, sI_sset, E_var, E_cst, E_bin, E_not, E_and, E_cmp, E_chain, E_ife, E_tup, E_lst, E_idx, E_slc, E_callN, E_blt, E_isI, E_meth, E_fldN, E_make, E_mthN, E_set0, Es_nil, Es_cons, O_none, O_some, B_ok, List.getElem?_cons_zero, List.getElem?_cons_succ, List.set_cons_zero, List.set_cons_succ, s1]) (by simp only [Src.len, s3])
   (fun i ρ m => m = M ∧ ∃ o1 o2 o3 o4, ρ = [some w, o1, o2, o3, o4]) ⟨rfl, _, _, _, _, rfl⟩ (fun i ρ m hi => by
    rintro ⟨rfl, o1, o2, o3, o4, rfl⟩
    have hi' : i < R.length := by rw [← h.len]; exact hi
    have g1 := h.row i hi hi'
    obtain ⟨u, u1, u2, u3⟩ := src_getS g1
    refine ⟨.tup [.int i, rws[i]], [some w, some (.int i), some rws[i], o3, o4], [some w, some (.int i), some rws[i], o3, o4], m, ?_, by simp [bindT, bindTs], .inl ?_, rfl, _, _, _, _, rfl⟩
    ·rw [get_enm_it (w := rws[i])]
     rw [s2, get_tup_it hi]
    ·have e2 := any_comp (C := Cn pg n) (t := .tup (.cons (.var 3) (.cons (.var 4) .nil))) (e := .cmp .NotEq (.idx (.idx (.var 0) (.var 4)) (.var 3)) (.var 4)) (it := .enm (.var 2)) (js := [3, 4]) (ρ := [some w, some (.int i), some rws[i], o3, o4]) (m := m) (s := .enm u)
      (xs := (List.range R[i].length).map fun (x : Nat) => W.tup [.int (x : Int), .int (R[i].getD x 0)]) (B := fun x => match x with | .tup [a, b] => [some w, some (.int i), some rws[i], some a, some b] | _ => []) hm (by simp only [sI_rng, sI_enm, sI_var, sI_cst, sI_bin, sI_neg, sI_not, sI_and, sI_or, sI_cmp, sI_chain, sI_ife, sI_tup, sI_lst, sI_idx, sI_slc, sI_call, sI_blt, sI_isI, sI_meth, sI_comp, sI_lrng, sI_frz, sI_fld, sI_make, sI_mth, sI_set0, sI_sset, E_var, E_cst, E_bin, E_not, E_and, E_cmp, E_chain, E_ife, E_tup, E_lst, E_idx, E_slc, E_callN, E_blt, E_isI, E_meth, E_fldN, E_make, E_mthN, E_set0, Es_nil, Es_cons, O_none, O_some, B_ok, List.getElem?_cons_zero, List.getElem?_cons_succ, List.set_cons_zero, List.set_cons_succ, u1])
      (fun j hj => by
       have hj' : j < R[i].length := by simpa using hj
       rw [get_enm_it (w := .int R[i][j]) (by rw [u2, get_tup_it (by simpa using hj')]; simp)]
       simp [hj'])
      (by rw [get_enm_fin (by rw [u2]; exact get_tup_fin (by simp))]) (by simp only [Src.len, u3]; simp) (by have := hl R[i] (List.getElem_mem hi'); simp [lim]; omega)
      (fun x hx => by obtain ⟨j, _, rfl⟩ := List.mem_map.mp hx; simp [clr, bindT, bindTs])
      (fun x hx y hy => by obtain ⟨j, _, rfl⟩ := List.mem_map.mp hx; obtain ⟨j', _, rfl⟩ := List.mem_map.mp hy; simp [bindT, bindTs])
      (fun x hx => by
       obtain ⟨j, hj, rfl⟩ := List.mem_map.mp hx
       have hj := List.mem_range.mp hj
       obtain ⟨k, hk, hx', z1, z2⟩ := hs i hi' j hj
       have hk' : k < rws.length := by rw [h.len]; exact hk
       have e0 : R[i].getD j 0 = (k : Int) := by simp [hj, z1]
       have g2 := h.row k hk' hk
       have e3 := idx_of (getL_S h.at_) hk'
       have e4 := idx_of (i := j) g2 (by simpa using hx')
       simp only [E_var, E_cst, E_bin, E_not, E_and, E_cmp, E_chain, E_ife, E_tup, E_lst, E_idx, E_slc, E_callN, E_blt, E_isI, E_meth, E_fldN, E_make, E_mthN, E_set0, Es_nil, Es_cons, O_none, O_some, B_ok, List.getElem?_cons_zero, List.getElem?_cons_succ, List.set_cons_zero, List.set_cons_succ, e0, e3, e4, cmpop]
       simp [z2, eqI, B_ok])
     rw [b14_1, seq_nx (ρ1 := [some w, some (.int i), some rws[i], o3, o4]) (by rw [if_f (evT_val (T_blt _ _) e2), ss_nil']), ss_nil'])
   (fun ρ m h => by obtain ⟨rfl, _⟩ := h; rw [get_enm_fin (by rw [s2]; exact get_tup_fin (by omega))])
  refine run_nx (d := ⟨1, 5, b14⟩) (ρ := [some w, o1, o2, o3, o4]) rfl rfl ?_
  show evSs _ b14 [some w, none, none, none, none] m' = _
  rw [b14, seq_nx hf, ss_nil']
 refine callP_inv (go m hm h) (fun hp => ?_) rfl
 simp only [pureWs, Bool.and_eq_true, Bool.and_true] at hp
 exact go [] Cm.nil (h.pure hp)
structure Parts (m : Mem) (k s l r t : W) (ks ss ls : List Str) (rws lws : List W) (R L : List (List Int)) : Prop where
 k : getL m k = some (ks.map .str)
 s : getL m s = some (ss.map .str)
 l : getL m l = some (ls.map .str)
 r : Rows m r rws R
 t : Rows m t lws L
structure TabOk (ks ss ls : List Str) (R L : List (List Int)) : Prop where
 wd : ∀ z ∈ ks ++ ss ++ ls, Wd z
 nd : (ks ++ ss ++ ls).Nodup
 k2 : ks.length ≤ 2
 s2 : 2 ≤ ss.length
 s4 : ss.length ≤ 4
 l2 : ls.length ≤ 2
 rl : R.length = ss.length
 tl : L.length = ss.length
 re : ∀ ns ∈ R, ns.length = 2 ^ ks.length ∧ ∀ x ∈ ns, 0 ≤ x ∧ x < (ss.length : Int)
 te : ∀ ns ∈ L, ns.length = ls.length ∧ ∀ x ∈ ns, 0 ≤ x ∧ x < (2 : Int)
 st : Settled R
theorem getL_app {m l : Mem} {w : W} {xs : List W} (h : getL m w = some xs) : getL (m ++ l) w = some xs := by
 have := getS_set (l := l) (getL_S h)
 cases w with
 | tup ys => cases h
 | _ => exact this
theorem pow_le {n : Nat} (h : n ≤ 2) : 2 ^ n ≤ 4 := by
 rcases (by omega : n = 0 ∨ n = 1 ∨ n = 2) with rfl | rfl | rfl <;> decide
theorem add_L {M : Mem} {x y : W} {xs ys : List W} (h1 : getL M x = some xs) (h2 : getL M y = some ys) (h3 : xs.length + ys.length ≤ lim) : binop .Add x y M = .ok (.ref M.length) (M ++ [.lst (xs ++ ys)]) := by
 have : catL M x y = .ok (.ref M.length) (M ++ [.lst (xs ++ ys)]) := by simp only [catL, h1, h2]; rw [if_pos h3]; rfl
 cases x <;> cases y <;> first | exact this | cases h1 | cases h2
theorem cat3 {n : Nat} {M : Mem} {k s l r t : W} {ks ss ls : List Str} {rws lws : List W} {R L : List (List Int)} (hm : Cm M) (p : Parts M k s l r t ks ss ls rws lws R L) (o : TabOk ks ss ls R L) :
  evE (Cn pg (n + 1 + 1)) (.frz (.bin .Add (.bin .Add (.var 0) (.var 1)) (.var 2))) [some k, some s, some l, some r, some t, none] M = .ok (.fz ((ks ++ ss ++ ls).map .str)) M := by
 have c1 : (ks.map W.str).length + (ss.map W.str).length ≤ lim := by have := o.k2; have := o.s4; simp [lim]; omega
 have c2 : (ks.map W.str ++ ss.map W.str).length + (ls.map W.str).length ≤ lim := by have := o.k2; have := o.s4; have := o.l2; simp [lim]; omega
 have h1 : evE (Cn pg (n + 1 + 1)) (.bin .Add (.bin .Add (.var 0) (.var 1)) (.var 2)) [some k, some s, some l, some r, some t, none] M = .ok (.ref (M.length + 1)) (M ++ [.lst (ks.map .str ++ ss.map .str), .lst (ks.map .str ++ ss.map .str ++ ls.map .str)]) := by
  simp only [E_var, E_cst, E_bin, E_not, E_and, E_cmp, E_chain, E_ife, E_tup, E_lst, E_idx, E_slc, E_callN, E_blt, E_isI, E_meth, E_fldN, E_make, E_mthN, E_set0, Es_nil, Es_cons, O_none, O_some, B_ok, List.getElem?_cons_zero, List.getElem?_cons_succ, List.set_cons_zero, List.set_cons_succ, add_L p.k p.s c1]
  rw [add_L (M := M ++ [O.lst (ks.map W.str ++ ss.map W.str)]) (x := .ref M.length) (xs := ks.map W.str ++ ss.map W.str) (by simp [getL]) (getL_app p.l) c2]
  simp
 have := frz_lst (C := Cn pg (n + 1 + 1)) h1 rfl hm (by omega) (xs := ks.map .str ++ ss.map .str ++ ls.map .str) (by simp) (by rw [← List.map_append, ← List.map_append]; exact pureS _)
 rw [this, List.map_append, List.map_append]
theorem check_table {n : Nat} {m : Mem} {k s l r t : W} {ks ss ls : List Str} {rws lws : List W} {R L : List (List Int)} (hm : Cm m) (p : Parts m k s l r t ks ss ls rws lws R L) (o : TabOk ks ss ls R L) : callP (D.runN pg (n + 1 + 1 + 1) 11) [k, s, l, r, t] m = .ok .non m := by
 have go : ∀ M, Cm M → Parts M k s l r t ks ss ls rws lws R L → D.runN pg (n + 1 + 1 + 1) 11 [k, s, l, r, t] M = .ok .non M := fun M hm p => by
  have hlen : (ks ++ ss ++ ls).length ≤ 8 := by have := o.k2; have := o.s4; have := o.l2; simp; omega
  have c1 : (ks.map W.str).length + (ss.map W.str).length ≤ lim := by have := o.k2; have := o.s4; simp [lim]; omega
  have c2 : (ks.map W.str ++ ss.map W.str).length + (ls.map W.str).length ≤ lim := by have := o.k2; have := o.s4; have := o.l2; simp [lim]; omega
  have e1 := cat3 (n := n) hm p o
  have e2 : evE (Cn pg (n + 1 + 1)) (.call 0 (.cons (.frz (.bin .Add (.bin .Add (.var 0) (.var 1)) (.var 2))) .nil)) [some k, some s, some l, some r, some t, none] M = .ok .non M := by
   rw [E_callN, Es_cons, e1]
   simp only [B_ok, Es_nil, first_wrong_word o.wd o.nd (by omega)]
  have d1 := count_letters (n := n + 1) (getL_S p.k) (by have := o.k2; simp; omega)
  have d2 := check_many (n := n + 1) (getL_S p.k) (getL_S p.s) (getL_S p.l) (by simpa using o.k2) (by simpa using o.s2) (by simpa using o.s4) (by simpa using o.l2)
  have d3 := check_each (n := n + 1) (word := "row") (many := ss.length) (width := 2 ^ ks.length) (bound := ss.length) hm (getL_S p.r.at_) (by rw [p.r.len, o.rl]) (by have := o.s4; omega) (by have := pow_le o.k2; omega) (p.r.each o.re) p.r.pur
  have d4 := check_each (n := n + 1) (word := "lights") (many := ss.length) (width := ls.length) (bound := 2) hm (getL_S p.t.at_) (by rw [p.t.len, o.tl]) (by have := o.s4; omega) (by have := o.l2; omega) (p.t.each o.te) p.t.pur
  have d5 := check_settled (n := n + 1) hm p.r o.st (fun ns hns => by rw [(o.re ns hns).1]; have := pow_le o.k2; omega)
  simp only [List.length_map] at d1
  refine run_nx (d := ⟨5, 6, b11⟩) (ρ := [some k, some s, some l, some r, some t, some .non]) rfl rfl ?_
  show evSs _ b11 [some k, some s, some l, some r, some t, none] M = _
  have ht : evT (Cn pg (n + 1 + 1)) (.cmp .IsNot (.var 5) (.cst .non)) [some k, some s, some l, some r, some t, some .non] M = .ok false M := by simp only [E_var, E_cst, E_bin, E_not, E_and, E_cmp, E_chain, E_ife, E_tup, E_lst, E_idx, E_slc, E_callN, E_blt, E_isI, E_meth, E_fldN, E_make, E_mthN, E_set0, Es_nil, Es_cons, O_none, O_some, B_ok, T_call, T_blt, T_isI, T_or, T_not, T_cmp, T_chain, List.getElem?_cons_zero, List.getElem?_cons_succ, List.set_cons_zero, List.set_cons_succ, cmpop, isNon, Bool.not_true]
  rw [b11, seq_nx (ρ1 := [some k, some s, some l, some r, some t, some .non]) (asg_to e2 rfl), seq_nx (ρ1 := [some k, some s, some l, some r, some t, some .non]) (by rw [if_f ht, ss_nil'])]
  rw [seq_nx (expr_ok (w := .non) (m1 := M) (by simp only [E_var, E_cst, E_bin, E_not, E_and, E_cmp, E_chain, E_ife, E_tup, E_lst, E_idx, E_slc, E_callN, E_blt, E_isI, E_meth, E_fldN, E_make, E_mthN, E_set0, Es_nil, Es_cons, O_none, O_some, B_ok, List.getElem?_cons_zero, List.getElem?_cons_succ, List.set_cons_zero, List.set_cons_succ, d2]))]
  rw [seq_nx (expr_ok (w := .non) (m1 := M) (by simp only [E_var, E_cst, E_bin, E_not, E_and, E_cmp, E_chain, E_ife, E_tup, E_lst, E_idx, E_slc, E_callN, E_blt, E_isI, E_meth, E_fldN, E_make, E_mthN, E_set0, Es_nil, Es_cons, O_none, O_some, B_ok, List.getElem?_cons_zero, List.getElem?_cons_succ, List.set_cons_zero, List.set_cons_succ, len_of (getL_S p.s), List.length_map, d1, d3]))]
  rw [seq_nx (expr_ok (w := .non) (m1 := M) (by simp only [E_var, E_cst, E_bin, E_not, E_and, E_cmp, E_chain, E_ife, E_tup, E_lst, E_idx, E_slc, E_callN, E_blt, E_isI, E_meth, E_fldN, E_make, E_mthN, E_set0, Es_nil, Es_cons, O_none, O_some, B_ok, List.getElem?_cons_zero, List.getElem?_cons_succ, List.set_cons_zero, List.set_cons_succ, len_of (getL_S p.s), len_of (getL_S p.l), List.length_map, d4]))]
  rw [seq_nx (expr_ok (w := .non) (m1 := M) (by simp only [E_var, E_cst, E_bin, E_not, E_and, E_cmp, E_chain, E_ife, E_tup, E_lst, E_idx, E_slc, E_callN, E_blt, E_isI, E_meth, E_fldN, E_make, E_mthN, E_set0, Es_nil, Es_cons, O_none, O_some, B_ok, List.getElem?_cons_zero, List.getElem?_cons_succ, List.set_cons_zero, List.set_cons_succ, d5])), ss_nil']
 refine callP_inv (go m hm p) (fun hp => ?_) rfl
 simp only [pureWs, Bool.and_eq_true, Bool.and_true] at hp
 exact go [] Cm.nil ⟨by rw [getL_pure (m := m) hp.1]; exact p.k, by rw [getL_pure (m := m) hp.2.1]; exact p.s, by rw [getL_pure (m := m) hp.2.2.1]; exact p.l, p.r.pure hp.2.2.2.1, p.t.pure hp.2.2.2.2⟩
end My
end
section
set_option Elab.async false
set_option linter.all false
set_option maxRecDepth 1000000
set_option maxHeartbeats 4000000
namespace My
open PySem D
theorem getL_ins {m : Mem} {p : Nat} {c : Str} {fs : List (Str × W)} {o : O} {w : W} {xs : List W} (hp : m[p]? = some (.ins c fs)) (h : getL m w = some xs) : getL (m.set p o) w = some xs := by
 cases w with
 | ref q =>
  simp only [getL] at h ⊢
  split at h
  ·rename_i ys e
   have hq : p ≠ q := by rintro rfl; rw [hp] at e; cases e
   rw [List.getElem?_set_ne hq, e]
   exact h
  ·cases h
 | _ => exact h
theorem getS_ins {m : Mem} {p : Nat} {c : Str} {fs : List (Str × W)} {o : O} {w : W} {xs : List W} (hp : m[p]? = some (.ins c fs)) (h : getS m w = some xs) : getS (m.set p o) w = some xs := by
 cases w with
 | tup ys => exact h
 | _ => simp only [getS] at h ⊢; exact getL_ins hp h
theorem Rows.ins {m : Mem} {p : Nat} {c : Str} {fs : List (Str × W)} {o : O} {w : W} {rws : List W} {R : List (List Int)} (hp : m[p]? = some (.ins c fs)) (h : Rows m w rws R) : Rows (m.set p o) w rws R :=
 ⟨getL_ins hp h.at_, h.len, fun i h1 h2 => getS_ins hp (h.row i h1 h2), h.pur⟩
theorem Parts.ins {m : Mem} {p : Nat} {c : Str} {fs : List (Str × W)} {o : O} {k s l r t : W} {ks ss ls : List Str} {rws lws : List W} {R L : List (List Int)} (hp : m[p]? = some (.ins c fs)) (h : Parts m k s l r t ks ss ls rws lws R L) : Parts (m.set p o) k s l r t ks ss ls rws lws R L :=
 ⟨getL_ins hp h.k, getL_ins hp h.s, getL_ins hp h.l, h.r.ins hp, h.t.ins hp⟩
theorem Parts.app {m l0 : Mem} {k s l r t : W} {ks ss ls : List Str} {rws lws : List W} {R L : List (List Int)} (h : Parts m k s l r t ks ss ls rws lws R L) : Parts (m ++ l0) k s l r t ks ss ls rws lws R L :=
 ⟨getL_app h.k, getL_app h.s, getL_app h.l, h.r.app, h.t.app⟩
abbrev tupI (r : List Int) : W := .tup (r.map .int)
abbrev fzS (z : List Str) : W := .fz (z.map .str)
abbrev F1 (ks : List Str) : List (Str × W) := [("key_list", fzS ks)]
abbrev F2 (ks ss : List Str) : List (Str × W) := [("key_list", fzS ks), ("state_list", fzS ss)]
abbrev F3 (ks ss ls : List Str) : List (Str × W) := [("key_list", fzS ks), ("state_list", fzS ss), ("lamp_list", fzS ls)]
abbrev F4 (ks ss ls : List Str) (R : List (List Int)) : List (Str × W) := [("key_list", fzS ks), ("state_list", fzS ss), ("lamp_list", fzS ls), ("row_list", .fz (R.map tupI))]
abbrev F5 (ks ss ls : List Str) (R L : List (List Int)) : List (Str × W) := [("key_list", fzS ks), ("state_list", fzS ss), ("lamp_list", fzS ls), ("row_list", .fz (R.map tupI)), ("light_list", .fz (L.map tupI))]
noncomputable def tab (ks ss ls : List Str) (R L : List (List Int)) : W := .obj "Table" ["key_list", "state_list", "lamp_list", "row_list", "light_list"] [fzS ks, fzS ss, fzS ls, .fz (R.map tupI), .fz (L.map tupI)]
theorem pureT (R : List (List Int)) : pureWs (R.map tupI) = true := pureM (fun r => by simp [pureW, pureI]) R
theorem tab_pure {ks ss ls : List Str} {R L : List (List Int)} : pureW (tab ks ss ls R L) = true := by simp [tab, pureW, pureWs, pureS, pureT]
theorem set_cm {m : Mem} {p : Nat} {c : Str} {fs : List (Str × W)} (hm : Cm m) (h : pureWs (fs.map (·.2)) = true) : Cm (m.set p (.ins c fs)) := hm.set (bels_pure _ h)
theorem list_frz {C : Cx} {e : E} {ρ : D.Loc} {m : Mem} {w : W} {xs : List W} (he : evE C e ρ m = .ok w m) (h : getL m w = some xs) (hm : Cm m) (hp : pureWs xs = true) : evE C (.frz (.blt .list (.cons e .nil))) ρ m = .ok (.fz xs) m := by
 refine frz_new (m0 := m) ?_ rfl hm hp
 rw [E_blt, Es_cons, he]
 simp only [B_ok, Es_nil, bltop, getL_S h, new]
theorem put_ok {m : Mem} {p : Nat} {f : Str} {fs fs' : List (Str × W)} {v : W} (hp : m[p]? = some (.ins "Table" fs)) (hc : cs.flds.contains (("Table" : Str), f) = true) (hl : fs.length < 1000) (hf : D.putF f v fs = fs') : fasop cs (.ref p) f v m = .ok () (m.set p (.ins "Table" fs')) := by
 simp only [fasop, hp]
 rw [if_pos ⟨hc, hl⟩, hf]
theorem table_init {n : Nat} {m : Mem} {p : Nat} {k s l r t : W} {ks ss ls : List Str} {rws : List W} {R L : List (List Int)} (hm : Cm m) (hp : m[p]? = some (.ins "Table" [])) (q : Parts m k s l r t ks ss ls rws (L.map tupI) R L) (o : TabOk ks ss ls R L) :
  D.runN pg (n + 1 + 1 + 1 + 1) 2 [.ref p, k, s, l, r, t] m = .ok .non (m.set p (.ins "Table" (F5 ks ss ls R L))) := by
 have hlt : p < m.length := (List.getElem?_eq_some_iff.mp hp).1
 have g : ∀ o : O, (m.set p o)[p]? = some o := fun o => by rw [List.getElem?_set_self hlt]
 have d0 := check_table (n := n) hm q o
 have q1 : Parts (m.set p (.ins "Table" (F1 ks))) k s l r t ks ss ls rws (L.map tupI) R L := q.ins hp
 have q2 : Parts (m.set p (.ins "Table" (F2 ks ss))) k s l r t ks ss ls rws (L.map tupI) R L := q.ins hp
 have q3 : Parts (m.set p (.ins "Table" (F3 ks ss ls))) k s l r t ks ss ls rws (L.map tupI) R L := q.ins hp
 have q4 : Parts (m.set p (.ins "Table" (F4 ks ss ls R))) k s l r t ks ss ls rws (L.map tupI) R L := q.ins hp
 have m1 : Cm (m.set p (.ins "Table" (F1 ks))) := set_cm hm (by simp [pureWs, pureW, pureS])
 have m2 : Cm (m.set p (.ins "Table" (F2 ks ss))) := set_cm hm (by simp [pureWs, pureW, pureS])
 have m3 : Cm (m.set p (.ins "Table" (F3 ks ss ls))) := set_cm hm (by simp [pureWs, pureW, pureS])
 have m4 : Cm (m.set p (.ins "Table" (F4 ks ss ls R))) := set_cm hm (by simp [pureWs, pureW, pureS, pureT])
 have hrl : rws.length ≤ lim := by have := q.r.len; have := o.rl; have := o.s4; simp [lim]; omega
 have e4 : evE (Cn pg (n + 1 + 1 + 1)) (.frz (.comp (.gen (.var 6) [6] (.var 4) .nil (.elt (.blt .tuple (.cons (.var 6) .nil)))))) [some (.ref p), some k, some s, some l, some r, some t, none] (m.set p (.ins "Table" (F3 ks ss ls))) = .ok (.fz (R.map tupI)) (m.set p (.ins "Table" (F3 ks ss ls))) := by
  obtain ⟨sr, s1, s2, s3⟩ := toI_of (getL_S q3.r.at_)
  have hI : evI (Cn pg (n + 1 + 1 + 1)) (.var 4) [some (.ref p), some k, some s, some l, some r, some t, none] (m.set p (.ins "Table" (F3 ks ss ls))) = .ok sr (m.set p (.ins "Table" (F3 ks ss ls))) := by rw [I_var, E_var]; exact s1
  obtain ⟨ρ', hc⟩ := comp_fm (C := Cn pg (n + 1 + 1 + 1)) (get := sr.get) (t := .var 6) (ifs := .nil) (e := .blt .tuple (.cons (.var 6) .nil)) (ρ := clr [6] [some (.ref p), some k, some s, some l, some r, some t, none]) (m := m.set p (.ins "Table" (F3 ks ss ls))) (xs := rws) (B := fun x => [some (.ref p), some k, some s, some l, some r, some t, some x]) (p := fun _ => true) (g := fun w => match getS (m.set p (.ins "Table" (F3 ks ss ls))) w with | some xs => .tup xs | none => .non)
   (fun j hj => by rw [s2, get_tup_it hj]) (by rw [s2]; exact get_tup_fin (by omega)) (fun x _ => by simp [clr, bindT]) (fun x _ y _ => by simp [bindT]) (fun x _ => by simp only [sIfs_nil, sIfs_cons]) (fun x hx _ => by
    obtain ⟨j, hj, rfl⟩ := List.mem_iff_getElem.mp hx
    have hj' : j < R.length := by rw [← q.r.len]; exact hj
    simp only [E_var, E_cst, E_bin, E_not, E_and, E_cmp, E_chain, E_ife, E_tup, E_lst, E_idx, E_slc, E_callN, E_blt, E_isI, E_meth, E_fldN, E_make, E_mthN, E_set0, Es_nil, Es_cons, O_none, O_some, B_ok, List.getElem?_cons_zero, List.getElem?_cons_succ, List.set_cons_zero, List.set_cons_succ, bltop, q3.r.row j hj hj']) hrl
  have he : rws.map (fun w => match getS (m.set p (.ins "Table" (F3 ks ss ls))) w with | some xs => W.tup xs | none => .non) = R.map tupI := by
   apply List.ext_getElem
   ·simp [q.r.len]
   ·intro j h1 h2
    have hj : j < rws.length := by simpa using h1
    have hj' : j < R.length := by simpa using h2
    simp [q3.r.row j hj hj']
  rw [filterT, he, ← s3] at hc
  exact frz_new (comp_ok (js := [6]) (ifs := .nil) (g := .elt (.blt .tuple (.cons (.var 6) .nil))) hI hc) rfl m3 (pureT R)
 refine run_nx (d := ⟨6, 7, b2⟩) (ρ := [some (.ref p), some k, some s, some l, some r, some t, none]) rfl rfl ?_
 show evSs _ b2 [some (.ref p), some k, some s, some l, some r, some t, none] m = _
 have v0 : ∀ M, evE (Cn pg (n + 1 + 1 + 1)) (.var 0) [some (.ref p), some k, some s, some l, some r, some t, none] M = .ok (.ref p) M := fun M => by simp only [E_var, E_cst, E_bin, E_not, E_and, E_cmp, E_chain, E_ife, E_tup, E_lst, E_idx, E_slc, E_callN, E_blt, E_isI, E_meth, E_fldN, E_make, E_mthN, E_set0, Es_nil, Es_cons, O_none, O_some, B_ok, List.getElem?_cons_zero, List.getElem?_cons_succ, List.set_cons_zero, List.set_cons_succ]
 rw [b2, seq_nx (expr_ok (w := .non) (m1 := m) (by simp only [E_var, E_cst, E_bin, E_not, E_and, E_cmp, E_chain, E_ife, E_tup, E_lst, E_idx, E_slc, E_callN, E_blt, E_isI, E_meth, E_fldN, E_make, E_mthN, E_set0, Es_nil, Es_cons, O_none, O_some, B_ok, List.getElem?_cons_zero, List.getElem?_cons_succ, List.set_cons_zero, List.set_cons_succ, d0]))]
 rw [seq_nx (fas_ok (list_frz (w := k) (by simp only [E_var, E_cst, E_bin, E_not, E_and, E_cmp, E_chain, E_ife, E_tup, E_lst, E_idx, E_slc, E_callN, E_blt, E_isI, E_meth, E_fldN, E_make, E_mthN, E_set0, Es_nil, Es_cons, O_none, O_some, B_ok, List.getElem?_cons_zero, List.getElem?_cons_succ, List.set_cons_zero, List.set_cons_succ]) q.k hm (pureS _)) (v0 _) (put_ok (fs' := F1 ks) hp rfl (by decide) rfl))]
 rw [seq_nx (fas_ok (list_frz (w := s) (by simp only [E_var, E_cst, E_bin, E_not, E_and, E_cmp, E_chain, E_ife, E_tup, E_lst, E_idx, E_slc, E_callN, E_blt, E_isI, E_meth, E_fldN, E_make, E_mthN, E_set0, Es_nil, Es_cons, O_none, O_some, B_ok, List.getElem?_cons_zero, List.getElem?_cons_succ, List.set_cons_zero, List.set_cons_succ]) q1.s m1 (pureS _)) (v0 _) (put_ok (fs' := F2 ks ss) (g _) rfl (by simp) rfl)), List.set_set]
 rw [seq_nx (fas_ok (list_frz (w := l) (by simp only [E_var, E_cst, E_bin, E_not, E_and, E_cmp, E_chain, E_ife, E_tup, E_lst, E_idx, E_slc, E_callN, E_blt, E_isI, E_meth, E_fldN, E_make, E_mthN, E_set0, Es_nil, Es_cons, O_none, O_some, B_ok, List.getElem?_cons_zero, List.getElem?_cons_succ, List.set_cons_zero, List.set_cons_succ]) q2.l m2 (pureS _)) (v0 _) (put_ok (fs' := F3 ks ss ls) (g _) rfl (by simp) rfl)), List.set_set]
 rw [seq_nx (fas_ok e4 (v0 _) (put_ok (fs' := F4 ks ss ls R) (g _) rfl (by simp) rfl)), List.set_set]
 rw [seq_nx (fas_ok (list_frz (w := t) (by simp only [E_var, E_cst, E_bin, E_not, E_and, E_cmp, E_chain, E_ife, E_tup, E_lst, E_idx, E_slc, E_callN, E_blt, E_isI, E_meth, E_fldN, E_make, E_mthN, E_set0, Es_nil, Es_cons, O_none, O_some, B_ok, List.getElem?_cons_zero, List.getElem?_cons_succ, List.set_cons_zero, List.set_cons_succ]) q4.t.at_ m4 (pureT L)) (v0 _) (put_ok (fs' := F5 ks ss ls R L) (g _) rfl (by simp) rfl)), List.set_set, ss_nil']
theorem table_make {n : Nat} {M : Mem} {ρ : D.Loc} {es : Es} {k s l r t : W} {ks ss ls : List Str} {rws : List W} {R L : List (List Int)} (he : evEs (Cn pg (n + 1 + 1 + 1 + 1)) es ρ M = .ok [k, s, l, r, t] M) (hm : Cm M) (q : Parts M k s l r t ks ss ls rws (L.map tupI) R L) (o : TabOk ks ss ls R L) :
  evE (Cn pg (n + 1 + 1 + 1 + 1)) (.frz (.make "Table" es)) ρ M = .ok (tab ks ss ls R L) M := by
 have hp : (M ++ [O.ins "Table" []])[M.length]? = some (.ins "Table" []) := by simp
 have h1 := table_init (n := n) (hm.push (o := .ins "Table" []) rfl) hp q.app o
 have h2 : (M ++ [O.ins "Table" []]).set M.length (.ins "Table" (F5 ks ss ls R L)) = M ++ [.ins "Table" (F5 ks ss ls R L)] := by simp
 rw [h2] at h1
 have hi : cs.ini.lookup ("Table" : Str) = some 2 := rfl
 refine frz_ok (l := [.ins "Table" (F5 ks ss ls R L)]) (w := .ref M.length) ?_ rfl hm ?_
 ·rw [E_make, he]
  simp only [B_ok, makeop, Cn, pg, hi]
  have : callP (D.runN pg (n + 1 + 1 + 1 + 1) 2) [.ref M.length, k, s, l, r, t] (M ++ [O.ins "Table" []]) = .ok .non (M ++ [.ins "Table" (F5 ks ss ls R L)]) := by rw [callP_imp rfl, h1]
  simp only [pg] at this
  rw [this]
  rfl
 ·have hx : (M ++ [O.ins "Table" (F5 ks ss ls R L)])[M.length]? = some (.ins "Table" (F5 ks ss ls R L)) := by simp
  simp only [frW, frG, hx]
  rw [if_neg (by omega)]
  simp only [List.map_cons, List.map_nil]
  rw [frWs_pure _ (by simp [pureWs, pureW, pureS, pureT])]
  rfl
section
variable {n : Nat} {m : Mem} {ks ss ls : List Str} {R L : List (List Int)}
theorem fld_row : fldop pg.cs (tab ks ss ls R L) "row_list" m = .ok (.fz (R.map tupI)) m := rfl
theorem fld_light : fldop pg.cs (tab ks ss ls R L) "light_list" m = .ok (.fz (L.map tupI)) m := rfl
theorem fld_key : fldop pg.cs (tab ks ss ls R L) "key_list" m = .ok (fzS ks) m := rfl
theorem fld_state : fldop pg.cs (tab ks ss ls R L) "state_list" m = .ok (fzS ss) m := rfl
theorem fld_lamp : fldop pg.cs (tab ks ss ls R L) "lamp_list" m = .ok (fzS ls) m := rfl
theorem goes {s x : Nat} (h1 : s < R.length) (h2 : x < R[s].length) : callP (D.runN pg (n + 1) 7) [tab ks ss ls R L, .int s, .int x] m = .ok (.int R[s][x]) m := by
 refine callP_pure (m1 := []) (by simp [pureWs, pureW, tab_pure]) (run_rt (d := ⟨3, 3, b7⟩) rfl rfl ?_) rfl
 show evSs _ b7 [some (tab ks ss ls R L), some (.int s), some (.int x)] [] = _
 have e1 := idx_of (m := []) (w := .fz (R.map tupI)) (xs := R.map tupI) (i := s) rfl (by simpa using h1)
 have e2 := idx_of (m := []) (w := tupI R[s]) (xs := R[s].map .int) (i := x) rfl (by simpa using h2)
 rw [b7, seq_rt (ret_ok (w := .int R[s][x]) (m1 := []) ?_)]
 simp only [List.getElem_map] at e1 e2
 simp only [E_var, E_cst, E_bin, E_not, E_and, E_cmp, E_chain, E_ife, E_tup, E_lst, E_idx, E_slc, E_callN, E_blt, E_isI, E_meth, E_fldN, E_make, E_mthN, E_set0, Es_nil, Es_cons, O_none, O_some, B_ok, List.getElem?_cons_zero, List.getElem?_cons_succ, List.set_cons_zero, List.set_cons_succ, fld_row, e1, e2]
theorem letters (h : ks.length ≤ 2) : callP (D.runN pg (n + 1 + 1) 6) [tab ks ss ls R L] m = .ok (.int (2 ^ ks.length : Nat)) m := by
 refine callP_pure (m1 := []) (by simp [pureWs, pureW, tab_pure]) (run_rt (d := ⟨1, 1, b6⟩) rfl rfl ?_) rfl
 show evSs _ b6 [some (tab ks ss ls R L)] [] = _
 have d1 := count_letters (n := n) (m := []) (w := fzS ks) (xs := ks.map .str) rfl (by simp; omega)
 rw [b6, seq_rt (ret_ok (w := .int (2 ^ ks.length : Nat)) (m1 := []) ?_)]
 simp only [List.length_map] at d1
 simp only [E_var, E_cst, E_bin, E_not, E_and, E_cmp, E_chain, E_ife, E_tup, E_lst, E_idx, E_slc, E_callN, E_blt, E_isI, E_meth, E_fldN, E_make, E_mthN, E_set0, Es_nil, Es_cons, O_none, O_some, B_ok, List.getElem?_cons_zero, List.getElem?_cons_succ, List.set_cons_zero, List.set_cons_succ, fld_key, d1]
end
end My
end
section
set_option Elab.async false
set_option linter.all false
set_option maxRecDepth 1000000
set_option maxHeartbeats 4000000
namespace My
open PySem D
theorem drawR {n : Nat} : Draws (D.runN pg (n + 1) 16) := by
 intro m p many hp h0 h1
 obtain ⟨A, B, hm⟩ := hp
 have hp : p < m.length := (List.getElem?_eq_some_iff.mp hm).1
 have hs : ∀ o : O, (m.set p o)[p]? = some o := fun o => by simp [hp]
 by_cases hA : 0 < A
 ·refine ⟨A % many, m.set p (pot (A / many) B), ?_, ⟨_, _, rfl⟩, Int.emod_nonneg _ (by omega), Int.emod_lt_of_pos _ h0⟩
  simp [D.runN, pg, b16, startL, sSs_nil, sSs_cons, sS_asg, sS_expr, sS_ret, sS_retN, sS_ife, sS_for_, sS_pass, sS_brk, sS_cont, sS_never, sS_fas, sT_and, sT_or, sT_not, sT_cmp, sT_chain, sT_ife, sT_var, sT_cst, sT_bin, sT_neg, sT_tup, sT_lst, sT_idx, sT_slc, sT_call, sT_blt, sT_isI, sT_meth, sT_comp, sT_frz, sT_fld, sT_make, sT_mth, sT_set0, sE_var, sE_cst, sE_bin, sE_neg, sE_not, sE_and, sE_or, sE_cmp, sE_chain, sE_ife, sE_tup, sE_lst, sE_idx, sE_slc, sE_call, sE_blt, sE_isI, sE_meth, sE_comp, sE_lrng, sE_frz, sE_fld, sE_make, sE_mth, sE_set0, sE_sset, sEs_nil, sEs_cons, sA_pt, sA_sub, sA_tup, sAs_nil, sAs_cons, bindT, R.bind, cmpop, idxop, getS, getL, hm, L2.atI, L2.ixN, bltop, setop, outF, hA, h0, h1]
 ·refine ⟨_, m.set p (pot A ((B * 48271 + 3571) % 2147483647)), ?_, ⟨_, _, rfl⟩, Int.emod_nonneg (((B * 48271 + 3571) % 2147483647) * ((B * 48271 + 3571) % 2147483647) % 2147483629 / 13) (by omega : many ≠ 0), Int.emod_lt_of_pos _ h0⟩
  have g0 : 0 ≤ (B * 48271 + 3571) % 2147483647 := Int.emod_nonneg _ (by decide)
  have g1 : (B * 48271 + 3571) % 2147483647 < 2147483647 := Int.emod_lt_of_pos _ (by decide)
  have g2 : mulOk B 48271 = true := by simp [mulOk]
  have g3 : mulOk ((B * 48271 + 3571) % 2147483647) ((B * 48271 + 3571) % 2147483647) = true := by simp [mulOk]; omega
  simp [D.runN, pg, b16, startL, sSs_nil, sSs_cons, sS_asg, sS_expr, sS_ret, sS_retN, sS_ife, sS_for_, sS_pass, sS_brk, sS_cont, sS_never, sS_fas, sT_and, sT_or, sT_not, sT_cmp, sT_chain, sT_ife, sT_var, sT_cst, sT_bin, sT_neg, sT_tup, sT_lst, sT_idx, sT_slc, sT_call, sT_blt, sT_isI, sT_meth, sT_comp, sT_frz, sT_fld, sT_make, sT_mth, sT_set0, sE_var, sE_cst, sE_bin, sE_neg, sE_not, sE_and, sE_or, sE_cmp, sE_chain, sE_ife, sE_tup, sE_lst, sE_idx, sE_slc, sE_call, sE_blt, sE_isI, sE_meth, sE_comp, sE_lrng, sE_frz, sE_fld, sE_make, sE_mth, sE_set0, sE_sset, sEs_nil, sEs_cons, sA_pt, sA_sub, sA_tup, sAs_nil, sAs_cons, bindT, R.bind, cmpop, idxop, getS, getL, hm, hs, L2.atI, L2.ixN, bltop, setop, outF, hA, h0, h1, binop, g2, g3]
theorem draw {n : Nat} {m : Mem} {p : Nat} {many : Int} (hp : Pot m p) (h0 : 0 < many) (h1 : many < 1073741824) : ∃ d m', callP (D.runN pg (n + 1) 16) [.ref p, .int many] m = .ok (.int d) m' ∧ PS p m m' ∧ 0 ≤ d ∧ d < many := by
 rw [callP_imp rfl]
 exact drawR hp h0 h1
theorem Wd.small {z : Str} (h : Wd z) : z.cps.all (· < 0x110000) = true := by
 rw [Array.all_eq_true]
 intro i hi
 have := h.az z.cps[i] (by simp)
 simp
 omega
noncomputable def mkw (d : Nat) (t : List Nat) : Str := ⟨((97 + d) :: t).toArray⟩
theorem mkw_inj {d d' : Nat} {t : List Nat} (h : mkw d t = mkw d' t) : d = d' := by
 have := congrArg (fun z : Str => z.cps.toList) h
 simp [mkw] at this
 exact this
theorem mkw_wd {d : Nat} {t : List Nat} (h : d < 26) (ht : t.length ≤ 7) (ha : ∀ c ∈ t, 97 ≤ c ∧ c ≤ 122) : Wd (mkw d t) := by
 refine ⟨by simp [mkw], by simp [mkw]; omega, fun c hc => ?_⟩
 simp [mkw] at hc
 rcases hc with rfl | hc
 ·omega
 ·exact ha c hc
theorem ix26 : ∀ d : Fin 26, (Builtin.Str.occurrences "abcdefghijklmnopqrstuvwxyz" ⟨#[97 + d.val]⟩ 0 26 1).head? = some d.val := by decide +kernel
theorem let26 : ("abcdefghijklmnopqrstuvwxyz" : Str).cps.toList = (List.range 26).map (97 + ·) := by decide +kernel
theorem at26 {d : Nat} (h : d < 26) (m : Mem) : idxop (.str "abcdefghijklmnopqrstuvwxyz") (.int d) m = .ok (.str ⟨#[97 + d]⟩) m := by
 have hl : ("abcdefghijklmnopqrstuvwxyz" : Str).length ≤ lim := by decide +kernel
 simp only [idxop]
 rw [if_pos hl, let26, atI_nat (i := d) (by simpa using h)]
 simp
abbrev ab : W := .str "abcdefghijklmnopqrstuvwxyz"
theorem idx0 (d : Nat) (t : List Nat) (h : t.length ≤ 7) (m : Mem) : idxop (.str (mkw d t)) (.int 0) m = .ok (.str ⟨#[97 + d]⟩) m := by
 have hl : (mkw d t).length ≤ lim := by simp [slen, mkw, lim]; omega
 simp only [idxop]
 rw [if_pos hl]
 have := atI_nat (xs := (mkw d t).cps.toList) (i := 0) (by simp [mkw])
 simp only [mkw, Int.natCast_zero] at this ⊢
 simp [this, mkw] at *
theorem next_word {n : Nat} {d : Nat} {t : List Nat} {o0 o1 o4 o5 : Option W} {m : Mem} (hd : d < 26) (ht : t.length ≤ 7) :
  evE (Cn pg n) (.bin .Add (.idx (.var 2) (.bin .Mod (.bin .Add (.meth (.var 2) "index" (.cons (.idx (.var 3) (.cst (.int 0))) .nil)) (.cst (.int 1))) (.cst (.int 26)))) (.slc (.var 3) (.some (.cst (.int 1))) .none)) [o0, o1, some ab, some (.str (mkw d t)), o4, o5] m = .ok (.str (mkw ((d + 1) % 26) t)) m := by
 have e1 : kdM "index" = .str := by decide
 have e2 : methop ab "index" [.str ⟨#[97 + d]⟩] m = .ok (.int d) m := by
  have h1 : opSIndex "abcdefghijklmnopqrstuvwxyz" [.str ⟨#[97 + d]⟩] m = .ok (.int d) m := by
   have := ix26 ⟨d, hd⟩
   simp only [opSIndex]
   rw [show ("abcdefghijklmnopqrstuvwxyz" : Str).length = 26 from by decide +kernel, this]
  simpa [methop, strop] using h1
 have e3 : ((d : Int) + 1) % 26 = (((d + 1) % 26 : Nat) : Int) := by omega
 have e4 := at26 (d := (d + 1) % 26) (Nat.mod_lt _ (by decide)) m
 have e5 : slcop (.str (mkw d t)) (some 1) none m = .ok (.str ⟨t.toArray⟩) m := by
  have hl : (mkw d t).length ≤ lim := by simp [slen, mkw, lim]; omega
  simp only [slcop]
  rw [if_pos hl, slice_from _ (by simp [mkw])]
  simp [mkw]
 have e6 : (⟨#[97 + (d + 1) % 26]⟩ : Str).length + (⟨t.toArray⟩ : Str).length ≤ lim := by simp [slen, lim]; omega
 have e7 : (⟨#[97 + (d + 1) % 26]⟩ : Str) ++ (⟨t.toArray⟩ : Str) = mkw ((d + 1) % 26) t := by
  show Str.mk (#[97 + (d + 1) % 26] ++ t.toArray) = _
  simp [mkw]
 have e8 : (0 : Int) < 26 := by decide
 simp only [E_var, E_cst, E_bin, E_not, E_and, E_cmp, E_chain, E_ife, E_tup, E_lst, E_idx, E_slc, E_callN, E_blt, E_isI, E_meth, E_fldN, E_make, E_mthN, E_set0, Es_nil, Es_cons, O_none, O_some, B_ok, List.getElem?_cons_zero, List.getElem?_cons_succ, List.set_cons_zero, List.set_cons_succ, kdOf, e1, if_true, idx0 d t ht, e2, binop, e3, e8, e4, e5]
 rw [if_pos e6, e7]
theorem word_loop {n : Nat} {p q : Nat} {m : Mem} {ws : List Str} {d0 : Nat} {t : List Nat} {o4 o5 : Option W} (hq : m[q]? = some (.lst (ws.map .str))) (hw : ∀ z ∈ ws, Wd z) (hl : ws.length ≤ 20) (hd : d0 < 26) (ht : t.length ≤ 7) (ha : ∀ c ∈ t, 97 ≤ c ∧ c ≤ 122) :
  ∃ d o4', d < 26 ∧ mkw d t ∉ ws ∧ evS (Cn pg n) (.for_ (.var 4) (.rng (.cst (.int 26))) b17_1) [some (.ref p), some (.ref q), some ab, some (.str (mkw d0 t)), o4, o5] m = .ok (.nx [some (.ref p), some (.ref q), some ab, some (.str (mkw d t)), o4', o5]) m := by
 obtain ⟨ρ', m', hf, rfl, d, o4', rfl, hd', hor⟩ := for_inv (C := Cn pg n) (t := .var 4) (it := .rng (.cst (.int 26))) (b := b17_1) (ρ := [some (.ref p), some (.ref q), some ab, some (.str (mkw d0 t)), o4, o5]) (m := m) (m1 := m) (s := .rng 0 26) (n := 26) (rngI (n := 26) (by simp only [E_var, E_cst, E_bin, E_not, E_and, E_cmp, E_chain, E_ife, E_tup, E_lst, E_idx, E_slc, E_callN, E_blt, E_isI, E_meth, E_fldN, E_make, E_mthN, E_set0, Es_nil, Es_cons, O_none, O_some, B_ok]; rfl) (by decide)) rfl
  (fun i ρ m1 => m1 = m ∧ ∃ d o4', ρ = [some (.ref p), some (.ref q), some ab, some (.str (mkw d t)), o4', o5] ∧ d < 26 ∧ (mkw d t ∉ ws ∨ (d = (d0 + i) % 26 ∧ ∀ j < i, mkw ((d0 + j) % 26) t ∈ ws)))
  ⟨rfl, d0, o4, rfl, hd, .inr ⟨by omega, by omega⟩⟩ (fun i ρ m1 hi => by
   rintro ⟨rfl, d, o4', rfl, hd', hor⟩
   have hin : cmpop .In (.str (mkw d t)) (.ref q) m1 = .ok (decide (mkw d t ∈ ws)) m1 := by
    simp only [cmpop, inop, hq]
    exact mem_strs (mkw_wd hd' ht ha).small fun z hz => (hw z hz).small
   have hT : evT (Cn pg n) (.cmp .In (.var 3) (.var 1)) [some (.ref p), some (.ref q), some ab, some (.str (mkw d t)), some (.int (0 + i)), o5] m1 = .ok (decide (mkw d t ∈ ws)) m1 := by simp only [E_var, E_cst, E_bin, E_not, E_and, E_cmp, E_chain, E_ife, E_tup, E_lst, E_idx, E_slc, E_callN, E_blt, E_isI, E_meth, E_fldN, E_make, E_mthN, E_set0, Es_nil, Es_cons, O_none, O_some, B_ok, T_call, T_blt, T_isI, T_or, T_not, T_cmp, T_chain, List.getElem?_cons_zero, List.getElem?_cons_succ, List.set_cons_zero, List.set_cons_succ, hin]
   by_cases hm : mkw d t ∈ ws
   ·rw [decide_eq_true hm] at hT
    refine ⟨.int (0 + i), [some (.ref p), some (.ref q), some ab, some (.str (mkw d t)), some (.int (0 + i)), o5], [some (.ref p), some (.ref q), some ab, some (.str (mkw ((d + 1) % 26) t)), some (.int (0 + i)), o5], m1, get_rng_it hi, by simp [bindT], .inl ?_, rfl, (d + 1) % 26, _, rfl, Nat.mod_lt _ (by decide), .inr ?_⟩
    ·rw [b17_1, seq_nx (ρ1 := [some (.ref p), some (.ref q), some ab, some (.str (mkw ((d + 1) % 26) t)), some (.int (0 + i)), o5]) (by rw [if_t hT, seq_nx (asg_to (next_word hd' ht) rfl), ss_nil']; rfl), ss_nil']
    ·rcases hor with hor | ⟨rfl, hall⟩
     ·exact absurd hm hor
     ·refine ⟨by omega, fun j hj => ?_⟩
      rcases Nat.lt_or_ge j i with h | h
      ·exact hall j h
      ·have : j = i := by omega
       subst this; exact hm
   ·rw [decide_eq_false hm] at hT
    refine ⟨.int (0 + i), [some (.ref p), some (.ref q), some ab, some (.str (mkw d t)), some (.int (0 + i)), o5], [some (.ref p), some (.ref q), some ab, some (.str (mkw d t)), some (.int (0 + i)), o5], m1, get_rng_it hi, by simp [bindT], .inl ?_, rfl, d, _, rfl, hd', .inl hm⟩
    rw [b17_1, seq_nx (ρ1 := [some (.ref p), some (.ref q), some ab, some (.str (mkw d t)), some (.int (0 + i)), o5]) (by rw [if_f hT, ss_nil']), ss_nil'])
  (fun ρ m _ => get_rng_fin (by omega))
 refine ⟨d, o4', hd', ?_, hf⟩
 rcases hor with h | ⟨_, h⟩
 ·exact h
 ·exfalso
  have hn : ((List.range 26).map fun j => mkw ((d0 + j) % 26) t).Nodup := by
   rw [List.nodup_iff_pairwise_ne, List.pairwise_map]
   refine List.Pairwise.imp_of_mem (fun {a b} ha hb hab => ?_) (List.nodup_iff_pairwise_ne.mp List.nodup_range)
   intro e
   have := mkw_inj e
   have := List.mem_range.mp ha
   have := List.mem_range.mp hb
   omega
  have := nodup_sub (k := ws) hn fun x hx => by
   obtain ⟨j, hj, rfl⟩ := List.mem_map.mp hx
   exact h j (List.mem_range.mp hj)
  simp at this
  omega
end My
end
section
set_option Elab.async false
set_option linter.all false
set_option maxRecDepth 1000000
set_option maxHeartbeats 4000000
namespace My
open PySem D
theorem toNat_eq {d : Int} (h : 0 ≤ d) : ((d.toNat : Nat) : Int) = d := by omega
theorem strsW_map : ∀ ns : List Str, strsW (ns.map W.str) = some ns
 | [] => rfl
 | n :: r => by simp [strsW, strsW_map r]
theorem word_begin {n p q : Nat} {m : Mem} {o5 : Option W} (hp : Pot m p) (hm : Cm m) :
  ∃ d t m', d < 26 ∧ t.length ≤ 7 ∧ (∀ c ∈ t, 97 ≤ c ∧ c ≤ 122) ∧ PS p m m' ∧ evE (Cn pg (n + 1)) (.meth (.cst (.str "")) "join" (.cons (.frz (.comp (.gen (.var 5) [5] (.rng (.bin .Add (.cst (.int 1)) (.call 16 (.cons (.var 0) (.cons (.cst (.int 8)) .nil))))) .nil (.elt (.idx (.var 2) (.call 16 (.cons (.var 0) (.cons (.cst (.int 26)) .nil)))))))) .nil)) [some (.ref p), some (.ref q), some ab, none, none, o5] m = .ok (.str (mkw d t)) m' := by
 obtain ⟨d8, m1, h1, s1, z1, z2⟩ := draw (n := n) (many := 8) hp (by decide) (by decide)
 have hc : (1 : Int) + d8 = ((d8.toNat + 1 : Nat) : Int) := by omega
 have hI : evI (Cn pg (n + 1)) (.rng (.bin .Add (.cst (.int 1)) (.call 16 (.cons (.var 0) (.cons (.cst (.int 8)) .nil))))) [some (.ref p), some (.ref q), some ab, none, none, o5] m = .ok (.rng 0 (d8.toNat + 1)) m1 := rngI (by simp only [E_var, E_cst, E_bin, E_not, E_and, E_cmp, E_chain, E_ife, E_tup, E_lst, E_idx, E_slc, E_callN, E_blt, E_isI, E_meth, E_fldN, E_make, E_mthN, E_set0, Es_nil, Es_cons, O_none, O_some, B_ok, List.getElem?_cons_zero, List.getElem?_cons_succ, List.set_cons_zero, List.set_cons_succ, h1, binop, hc]) (by omega)
 obtain ⟨ws, ρ', m2, hcomp, s2, hlen, hall⟩ := draws_comp (C := Cn pg (n + 1)) (f := 0) (get := Src.get (.rng 0 (d8.toNat + 1))) (i := 5) (e := .idx (.var 2) (.call 16 (.cons (.var 0) (.cons (.cst (.int 26)) .nil)))) (ρ := clr [5] [some (.ref p), some (.ref q), some ab, none, none, o5]) (n := d8.toNat + 1) (P := fun w => ∃ c : Nat, w = .str ⟨#[c]⟩ ∧ 97 ≤ c ∧ c ≤ 122) (s1.pot hp) (fun m j hj => ⟨_, get_rng_it hj⟩) (fun m => get_rng_fin (by omega)) (by simp [lim]; omega)
  (fun x m3 h3 => by
   obtain ⟨d, m4, h4, s4, y1, y2⟩ := draw (n := n) (many := 26) (h3.pot (s1.pot hp)) (by decide) (by decide)
   refine ⟨.str ⟨#[97 + d.toNat]⟩, m4, ?_, s4, _, rfl, by omega, by omega⟩
   have := at26 (d := d.toNat) (by omega) m4
   rw [toNat_eq y1] at this
   simp only [clr, E_var, E_cst, E_bin, E_not, E_and, E_cmp, E_chain, E_ife, E_tup, E_lst, E_idx, E_slc, E_callN, E_blt, E_isI, E_meth, E_fldN, E_make, E_mthN, E_set0, Es_nil, Es_cons, O_none, O_some, B_ok, List.getElem?_cons_zero, List.getElem?_cons_succ, List.set_cons_zero, List.set_cons_succ, h4, this])
 obtain ⟨cs', hcs, haz⟩ : ∃ cs' : List Nat, ws = cs'.map (fun c => W.str ⟨#[c]⟩) ∧ ∀ c ∈ cs', 97 ≤ c ∧ c ≤ 122 := by
  clear hcomp hlen
  induction ws with
  | nil => exact ⟨[], rfl, by simp⟩
  | cons w r ih =>
   obtain ⟨c, rfl, c1, c2⟩ := hall w List.mem_cons_self
   obtain ⟨l, rfl, l3⟩ := ih fun w hw => hall w (List.mem_cons_of_mem _ hw)
   refine ⟨c :: l, rfl, fun x hx => ?_⟩
   rcases List.mem_cons.mp hx with rfl | hx
   ·exact ⟨c1, c2⟩
   ·exact l3 x hx
 have hcl : cs'.length = d8.toNat + 1 := by rw [← hlen, hcs, List.length_map]
 have hf := frz_new (C := Cn pg (n + 1)) (m0 := m2) (comp_ok (js := [5]) (ifs := .nil) hI (by simpa only [Src.len] using hcomp)) (by rw [s2.len, s1.len]) (s2.cm (s1.cm hm)) (by rw [hcs]; exact pureM (fun _ => rfl) _)
 match cs', hcs, hcl, haz with
 | [], _, hcl, _ => simp at hcl
 | c :: t, hcs, hcl, haz =>
  have hc0 := haz c List.mem_cons_self
  refine ⟨c - 97, t, m2, by omega, by simp at hcl; omega, fun x hx => haz x (List.mem_cons_of_mem _ hx), s1.trans s2, ?_⟩
  have e1 : kdM "join" = .str := by decide
  have e2 : opJoin "" [.fz ws] m2 = .ok (.str (mkw (c - 97) t)) m2 := by
   have g1 : strsW ws = some ((c :: t).map fun c => (⟨#[c]⟩ : Str)) := by rw [hcs, show ((c :: t).map fun c => W.str ⟨#[c]⟩) = ((c :: t).map fun c => (⟨#[c]⟩ : Str)).map W.str from by rw [List.map_map]; rfl]; exact strsW_map _
   have g2 : ((((c :: t).map fun c => (⟨#[c]⟩ : Str)).map (·.length)).sum + ((c :: t).map fun c => (⟨#[c]⟩ : Str)).length * ("" : Str).length ≤ 16777216) := by
    have : ∀ l : List Nat, ((l.map fun c => (⟨#[c]⟩ : Str)).map (·.length)).sum = l.length := fun l => by
     induction l with
     | nil => rfl
     | cons a r ih => simp [slen] at ih ⊢; omega
    rw [this]
    have h0 : ("" : Str).length = 0 := rfl
    rw [h0]
    simp at hcl ⊢
    omega
   have g3 : Txt.join "" ((c :: t).map fun c => (⟨#[c]⟩ : Str)) = mkw (c - 97) t := by
    have := L2.join_cps ((c :: t).map fun c => (⟨#[c]⟩ : Str))
    have h2 : (((c :: t).map fun c => (⟨#[c]⟩ : Str)).map fun y => y.cps.toList).flatten = c :: t := by
     have : ∀ l : List Nat, ((l.map fun c => (⟨#[c]⟩ : Str)).map fun y => y.cps.toList).flatten = l := fun l => by
      induction l with
      | nil => rfl
      | cons a r ih => simp only [List.map_cons, List.flatten_cons, ih]; rfl
     exact this _
    rw [h2] at this
    show Txt.join ⟨#[]⟩ _ = _
    generalize Txt.join ⟨#[]⟩ ((c :: t).map fun c => (⟨#[c]⟩ : Str)) = z at this
    obtain ⟨a⟩ := z
    simp only at this
    have : a = (c :: t).toArray := by rw [← this]
    rw [this, mkw, show 97 + (c - 97) = c by omega]
   simp only [opJoin, getL, g1]
   rw [if_pos g2, g3]
  rw [E_meth]
  simp only [E_cst, B_ok, kdOf, e1, if_true, Es_cons, hf, Es_nil]
  simpa [methop, strop] using e2
theorem word {n p q : Nat} {m : Mem} {ws : List Str} (hp : Pot m p) (hm : Cm m) (hpq : p ≠ q) (hq : m[q]? = some (.lst (ws.map .str))) (hw : ∀ z ∈ ws, Wd z) (hl : ws.length ≤ 20) :
  ∃ w m', D.runN pg (n + 1 + 1) 17 [.ref p, .ref q] m = .ok (.str w) (m'.set q (.lst ((ws ++ [w]).map .str))) ∧ PS p m m' ∧ Wd w ∧ w ∉ ws := by
 obtain ⟨d0, t, m1, hd0, ht, ha, s1, he⟩ := word_begin (n := n) (q := q) (o5 := none) hp hm
 have hq1 : m1[q]? = some (.lst (ws.map .str)) := by rw [s1.ne hpq]; exact hq
 obtain ⟨d, o4, hd, hnot, hf⟩ := word_loop (n := n + 1) (p := p) (o4 := none) (o5 := none) hq1 hw hl hd0 ht ha
 refine ⟨mkw d t, m1, ?_, s1, mkw_wd hd ht ha, hnot⟩
 refine run_rt (d := ⟨2, 6, b17⟩) rfl rfl ?_
 show evSs _ b17 [some (.ref p), some (.ref q), none, none, none, none] m = _
 have hap : evE (Cn pg (n + 1)) (.meth (.var 1) "append" (.cons (.var 3) .nil)) [some (.ref p), some (.ref q), some ab, some (.str (mkw d t)), o4, none] m1 = .ok .non (m1.set q (.lst ((ws ++ [mkw d t]).map .str))) := by
  have e1 : kdM "append" = .lst := by decide
  have e2 : (ws.map W.str).length < lim := by simp [lim]; omega
  simp only [E_var, E_cst, E_bin, E_not, E_and, E_cmp, E_chain, E_ife, E_tup, E_lst, E_idx, E_slc, E_callN, E_blt, E_isI, E_meth, E_fldN, E_make, E_mthN, E_set0, Es_nil, Es_cons, O_none, O_some, B_ok, List.getElem?_cons_zero, List.getElem?_cons_succ, List.set_cons_zero, List.set_cons_succ, kdOf, hq1, e1, if_true, methop, lstop, opAppend, e2, List.map_append, List.map_cons, List.map_nil]
 rw [b17, seq_nx (ρ1 := [some (.ref p), some (.ref q), some ab, none, none, none]) (asg_to (w := ab) (m1 := m) (by simp only [E_cst]) rfl), seq_nx (ρ1 := [some (.ref p), some (.ref q), some ab, some (.str (mkw d0 t)), none, none]) (asg_to he rfl), seq_nx hf, seq_nx (expr_ok hap), seq_rt (ret_ok (w := .str (mkw d t)) (m1 := m1.set q (.lst ((ws ++ [mkw d t]).map .str))) (by simp only [E_var, E_cst, E_bin, E_not, E_and, E_cmp, E_chain, E_ife, E_tup, E_lst, E_idx, E_slc, E_callN, E_blt, E_isI, E_meth, E_fldN, E_make, E_mthN, E_set0, Es_nil, Es_cons, O_none, O_some, B_ok, List.getElem?_cons_zero, List.getElem?_cons_succ, List.set_cons_zero, List.set_cons_succ]))]
noncomputable def PQ (p q : Nat) (ws : List Str) (m m' : Mem) : Prop := ∃ m1, PS p m m1 ∧ m' = m1.set q (.lst (ws.map .str))
theorem words {n p q many : Nat} {m : Mem} {ws : List Str} (hp : Pot m p) (hm : Cm m) (hpq : p ≠ q) (hq : m[q]? = some (.lst (ws.map .str))) (hw : ∀ z ∈ ws, Wd z) (hn : ws.Nodup) (hl : ws.length + many ≤ 20) :
  ∃ vs m', D.runN pg (n + 1 + 1 + 1) 18 [.ref p, .int many, .ref q] m = .ok (fzS vs) m' ∧ PQ p q (ws ++ vs) m m' ∧ vs.length = many ∧ (∀ z ∈ ws ++ vs, Wd z) ∧ (ws ++ vs).Nodup := by
 have hql : q < m.length := (List.getElem?_eq_some_iff.mp hq).1
 have hI : evI (Cn pg (n + 1 + 1)) (.rng (.var 1)) [some (.ref p), some (.int many), some (.ref q), none] m = .ok (.rng 0 many) m := rngI (by simp only [E_var, E_cst, E_bin, E_not, E_and, E_cmp, E_chain, E_ife, E_tup, E_lst, E_idx, E_slc, E_callN, E_blt, E_isI, E_meth, E_fldN, E_make, E_mthN, E_set0, Es_nil, Es_cons, O_none, O_some, B_ok, List.getElem?_cons_zero, List.getElem?_cons_succ, List.set_cons_zero, List.set_cons_succ]) (by omega)
 obtain ⟨acc, ρ', m', hc, ⟨o, ho⟩, vs, h1, h2, h3, h4, h5⟩ := compN_inv (get := Src.get (.rng 0 many)) (t := .var 3) (test := fun ρ m => evIfs (Cn pg (n + 1 + 1)) .nil ρ m) (body := fun ρ m acc => evG (Cn pg (n + 1 + 1)) (.elt (.call 17 (.cons (.var 0) (.cons (.var 2) .nil)))) ρ m acc) (n := many)
  (fun i ρ m1 acc => (∃ o, ρ = [some (.ref p), some (.int many), some (.ref q), o]) ∧ ∃ vs : List Str, acc = vs.map .str ∧ vs.length = i ∧ PQ p q (ws ++ vs) m m1 ∧ (∀ z ∈ ws ++ vs, Wd z) ∧ (ws ++ vs).Nodup) (fun i ρ m1 acc hi => by
   rintro ⟨⟨o, rfl⟩, vs, rfl, hvl, ⟨m2, s2, rfl⟩, hwd, hnd⟩
   have hq2 : (m2.set q (O.lst ((ws ++ vs).map .str)))[q]? = some (.lst ((ws ++ vs).map .str)) := List.getElem?_set_self (by rw [s2.len]; exact hql)
   have hp2 : Pot (m2.set q (O.lst ((ws ++ vs).map .str))) p := by obtain ⟨A, B, e⟩ := s2.pot hp; exact ⟨A, B, by rw [List.getElem?_set_ne hpq.symm]; exact e⟩
   obtain ⟨w, m3, hr, ⟨A, B, rfl⟩, hwd', hnot⟩ := word (n := n) hp2 ((s2.cm hm).set (o := .lst ((ws ++ vs).map .str)) (bels_pure _ (pureS _))) hpq hq2 hwd (by simp; omega)
   refine ⟨.int (0 + i), [some (.ref p), some (.int many), some (.ref q), some (.int (0 + i))], get_rng_it hi, by simp [bindT], .inl ⟨m2.set q (.lst ((ws ++ vs).map .str)), (vs ++ [w]).map .str, [some (.ref p), some (.int many), some (.ref q), some (.int (0 + i))], (m2.set p (pot A B)).set q (.lst ((ws ++ (vs ++ [w])).map .str)), by simp only [sIfs_nil, sIfs_cons], ?_, ⟨_, rfl⟩, vs ++ [w], rfl, by simp [hvl], ⟨_, s2.trans ⟨A, B, rfl⟩, rfl⟩, ?_, ?_⟩⟩
   ·have e1 : (vs.map W.str).length < lim := by simp [lim]; omega
    have e2 : callP (D.runN pg (n + 1 + 1) 17) [.ref p, .ref q] (m2.set q (O.lst ((ws ++ vs).map .str))) = .ok (.str w) ((m2.set p (pot A B)).set q (.lst ((ws ++ (vs ++ [w])).map .str))) := by
     rw [callP_imp rfl, hr, List.set_comm _ _ hpq.symm, List.set_set, List.append_assoc]
    simp only [sG_elt, sG_gen, E_var, E_cst, E_bin, E_not, E_and, E_cmp, E_chain, E_ife, E_tup, E_lst, E_idx, E_slc, E_callN, E_blt, E_isI, E_meth, E_fldN, E_make, E_mthN, E_set0, Es_nil, Es_cons, O_none, O_some, B_ok, List.getElem?_cons_zero, List.getElem?_cons_succ, List.set_cons_zero, List.set_cons_succ, e2]
    rw [if_pos e1]
    simp
   ·intro z hz
    rw [← List.append_assoc] at hz
    rcases List.mem_append.mp hz with hz | hz
    ·exact hwd z hz
    ·rw [List.mem_singleton] at hz; subst hz; exact hwd'
   ·rw [← List.append_assoc]
    rw [List.nodup_append]
    exact ⟨hnd, by simp, fun a ha b hb => by rw [List.mem_singleton] at hb; subst hb; rintro rfl; exact hnot ha⟩)
  (fun ρ m acc _ => get_rng_fin (by omega)) many 0 [some (.ref p), some (.int many), some (.ref q), none] m [] (by omega) ⟨⟨_, rfl⟩, [], rfl, rfl, ⟨m, hp.refl, by rw [List.append_nil, set_same hq]⟩, by simpa using hw, by simpa using hn⟩
 subst h1
 obtain ⟨m2, s2, rfl⟩ := h3
 refine ⟨vs, _, ?_, ⟨m2, s2, rfl⟩, h2, h4, h5⟩
 refine run_rt (d := ⟨3, 4, b18⟩) rfl rfl ?_
 show evSs _ b18 [some (.ref p), some (.int many), some (.ref q), none] m = _
 have hf := frz_new (C := Cn pg (n + 1 + 1)) (m0 := m2.set q (.lst ((ws ++ vs).map .str))) (comp_ok (js := [3]) (ifs := .nil) hI hc) (by rw [List.length_set, s2.len]) ((s2.cm hm).set (o := .lst ((ws ++ vs).map .str)) (bels_pure _ (pureS _))) (pureS vs)
 rw [b18, seq_rt (ret_ok hf)]
end My
end
section
set_option Elab.async false
set_option linter.all false
set_option maxRecDepth 1000000
set_option maxHeartbeats 4000000
namespace My
open PySem D
abbrev rowsO (many : Nat) (f : Nat → List Int) : Mem := (List.range many).map fun s => O.lst ((f s).map .int)
abbrev refsW (b many : Nat) : List W := (List.range many).map fun i => W.ref (b + i)
noncomputable def MM (many : Nat) (m : Mem) (f : Nat → List Int) : Mem := m ++ (rowsO many f ++ [.lst (refsW m.length many)])
section
variable {many : Nat} {m m' m2 : Mem} {f : Nat → List Int} {p : Nat}
theorem MM.pot (h : Pot m p) : Pot (MM many m f) p := h.app
theorem MM.ps (hp : p < m.length) (h : PS p (MM many m f) m2) : ∃ m', PS p m m' ∧ m2 = MM many m' f := by
 obtain ⟨A, B, rfl⟩ := h
 refine ⟨m.set p (D.pot A B), ⟨A, B, rfl⟩, ?_⟩
 unfold MM
 rw [List.set_append_left _ _ hp, List.length_set]
theorem MM.row {s : Nat} (h : s < many) : (MM many m f)[m.length + s]? = some (.lst ((f s).map .int)) := by
 unfold MM
 rw [List.getElem?_append_right (by omega), List.getElem?_append_left (by simp; omega)]
 simp [h]
theorem MM.refs : (MM many m f)[m.length + many]? = some (.lst (refsW m.length many)) := by
 unfold MM
 rw [List.getElem?_append_right (by omega), List.getElem?_append_right (by simp)]
 simp
theorem MM.set {s : Nat} {v : List Int} (h : s < many) : (MM many m f).set (m.length + s) (.lst (v.map .int)) = MM many m (fun j => if j = s then v else f j) := by
 unfold MM
 rw [List.set_append_right _ _ (by omega), List.set_append_left _ _ (by simp; omega)]
 congr 2
 apply List.ext_getElem
 ·simp
 ·intro j h1 h2
  simp only [List.length_set, List.length_map, List.length_range] at h1
  rw [List.getElem_set]
  by_cases hj : s = j
  ·subst hj; simp
  ·have : ¬ j = s := fun e => hj e.symm
   have h3 : ¬ m.length + s - m.length = j := by omega
   simp [hj, this, h3]
theorem MM.cm (h : Cm m) : Cm (MM many m f) := by
 refine h.app fun o ho => ?_
 rcases List.mem_append.mp ho with ho | ho
 ·obtain ⟨s, _, rfl⟩ := List.mem_map.mp ho
  exact bels_pure _ (pureI _)
 ·rw [List.mem_singleton] at ho
  subst ho
  show belWs _ _ = true
  have : ∀ l : List Nat, (∀ i ∈ l, i < many) → belWs (m.length + (rowsO many f ++ [O.lst (refsW m.length many)]).length) (l.map fun i => W.ref (m.length + i)) = true := fun l => by
   induction l with
   | nil => intro _; rfl
   | cons a r ih =>
    intro h
    have h1 := h a List.mem_cons_self
    simp only [List.map_cons, belWs, belW, ih fun i hi => h i (List.mem_cons_of_mem _ hi), Bool.and_true, decide_eq_true_eq]
    simp
    omega
  exact this _ fun i hi => List.mem_range.mp hi
end
theorem mem_ints {m : Mem} {s : Nat} {st : List Nat} : memW m (.int s) (st.map fun t : Nat => W.int (t : Int)) = .ok (decide (s ∈ st)) m := by
 have h1 : ∀ l : List Nat, allD (toD 60 m) (l.map fun t : Nat => W.int (t : Int)) = some (l.map fun t : Nat => PyData.int (t : Int)) := fun l => by
  induction l with
  | nil => rfl
  | cons a r ih => simp only [List.map_cons, allD, ih]; rfl
 simp only [memW, h1]
 have h2 : toD 60 m (.int (s : Int)) = some (.int s) := rfl
 rw [h2]
 dsimp only
 congr 1
 rw [List.any_map]
 induction st with
 | nil => simp
 | cons a r ih =>
  simp only [List.any_cons, ih, List.mem_cons, Function.comp]
  by_cases h : s = a
  ·subst h; simp [PyData.eqv]
  ·have : ¬ ((a : Int) = (s : Int)) := by omega
   simp [PyData.eqv, h, this]
theorem stays {n p many : Nat} {m : Mem} {o3 o4 o5 o6 : Option W} {lt : W} (hp : Pot m p) (hm : Cm m) (hmany : many ≤ 4) :
  ∃ (st : List Nat) (m' : Mem), (∀ s ∈ st, s < many) ∧ st.length ≤ 4 ∧ PS p m m' ∧ evE (Cn pg (n + 1)) (.frz (.comp (.gen (.var 3) [3] (.rng (.var 1)) (.cons (.cmp .Eq (.call 16 (.cons (.var 0) (.cons (.cst (.int 2)) .nil))) (.cst (.int 1))) .nil) (.elt (.var 3))))) [some (.ref p), some (.int many), some lt, o3, o4, o5, o6] m = .ok (.fz (st.map fun t : Nat => W.int (t : Int))) m' := by
 have hI : evI (Cn pg (n + 1)) (.rng (.var 1)) [some (.ref p), some (.int many), some lt, o3, o4, o5, o6] m = .ok (.rng 0 many) m := rngI (by simp only [E_var, E_cst, E_bin, E_not, E_and, E_cmp, E_chain, E_ife, E_tup, E_lst, E_idx, E_slc, E_callN, E_blt, E_isI, E_meth, E_fldN, E_make, E_mthN, E_set0, Es_nil, Es_cons, O_none, O_some, B_ok, List.getElem?_cons_zero, List.getElem?_cons_succ, List.set_cons_zero, List.set_cons_succ]) (by omega)
 obtain ⟨acc, ρ', m', hc, ⟨o, ho⟩, st, h1, h2, h3, h4⟩ := compN_inv (get := Src.get (.rng 0 many)) (t := .var 3) (test := fun ρ m => evIfs (Cn pg (n + 1)) (.cons (.cmp .Eq (.call 16 (.cons (.var 0) (.cons (.cst (.int 2)) .nil))) (.cst (.int 1))) .nil) ρ m) (body := fun ρ m acc => evG (Cn pg (n + 1)) (.elt (.var 3)) ρ m acc) (n := many)
  (fun i ρ m1 acc => (∃ o, ρ = [some (.ref p), some (.int many), some lt, o, o4, o5, o6]) ∧ ∃ st : List Nat, acc = st.map (fun t : Nat => W.int (t : Int)) ∧ (∀ s ∈ st, s < many) ∧ st.length ≤ i ∧ PS p m m1) (fun i ρ m1 acc hi => by
   rintro ⟨⟨o, rfl⟩, st, rfl, hst, hsl, s1⟩
   obtain ⟨d, m2, e1, s2, y1, y2⟩ := draw (n := n) (many := 2) (s1.pot hp) (by decide) (by decide)
   refine ⟨.int i, [some (.ref p), some (.int many), some lt, some (.int i), o4, o5, o6], by rw [get_rng_it hi]; simp, by simp [bindT], ?_⟩
   have ht : evIfs (Cn pg (n + 1)) (.cons (.cmp .Eq (.call 16 (.cons (.var 0) (.cons (.cst (.int 2)) .nil))) (.cst (.int 1))) .nil) [some (.ref p), some (.int many), some lt, some (.int i), o4, o5, o6] m1 = .ok (decide (d = 1)) m2 := by
    simp only [sIfs_nil, sIfs_cons, T_cmp, E_var, E_cst, E_bin, E_not, E_and, E_cmp, E_chain, E_ife, E_tup, E_lst, E_idx, E_slc, E_callN, E_blt, E_isI, E_meth, E_fldN, E_make, E_mthN, E_set0, Es_nil, Es_cons, O_none, O_some, B_ok, List.getElem?_cons_zero, List.getElem?_cons_succ, List.set_cons_zero, List.set_cons_succ, e1, cmpop, eqI]
    by_cases h : d = 1 <;> simp [h, sIfs_nil, sIfs_cons]
   by_cases h : d = 1
   ·rw [decide_eq_true h] at ht
    refine .inl ⟨m2, (st ++ [i]).map (fun t : Nat => W.int (t : Int)), [some (.ref p), some (.int many), some lt, some (.int i), o4, o5, o6], m2, ht, ?_, ⟨_, rfl⟩, st ++ [i], rfl, fun s hs => ?_, by simp; omega, s1.trans s2⟩
    ·have : (st.map fun t : Nat => W.int (t : Int)).length < lim := by simp [lim]; omega
     simp only [sG_elt, sG_gen, E_var, E_cst, E_bin, E_not, E_and, E_cmp, E_chain, E_ife, E_tup, E_lst, E_idx, E_slc, E_callN, E_blt, E_isI, E_meth, E_fldN, E_make, E_mthN, E_set0, Es_nil, Es_cons, O_none, O_some, B_ok, List.getElem?_cons_zero, List.getElem?_cons_succ, List.set_cons_zero, List.set_cons_succ]
     rw [if_pos this]
     simp
    ·rcases List.mem_append.mp hs with hs | hs
     ·exact hst s hs
     ·rw [List.mem_singleton] at hs; omega
   ·rw [decide_eq_false h] at ht
    exact .inr ⟨m2, ht, ⟨_, rfl⟩, st, rfl, hst, by omega, s1.trans s2⟩)
  (fun ρ m acc _ => get_rng_fin (by omega)) many 0 [some (.ref p), some (.int many), some lt, none, o4, o5, o6] m [] (by omega) ⟨⟨_, rfl⟩, [], rfl, by simp, by simp, hp.refl⟩
 subst h1
 exact ⟨st, m', h2, by omega, h4, frz_new (C := Cn pg (n + 1)) (m0 := m') (comp_ok (js := [3]) hI hc) h4.len (h4.cm hm) (pureM (fun _ => rfl) _)⟩
theorem stays1 {n p many : Nat} {m : Mem} {o3 o4 o5 o6 : Option W} {lt : W} (hp : Pot m p) (hm : Cm m) (h2 : 2 ≤ many) (hmany : many ≤ 4) :
  ∃ (st : List Nat) (m' : Mem), (∀ s ∈ st, s < many) ∧ st ≠ [] ∧ st.length ≤ 4 ∧ PS p m m' ∧ ∀ r, evSs (Cn pg (n + 1)) (.cons (.asg (.pt (.var 6)) (.frz (.comp (.gen (.var 3) [3] (.rng (.var 1)) (.cons (.cmp .Eq (.call 16 (.cons (.var 0) (.cons (.cst (.int 2)) .nil))) (.cst (.int 1))) .nil) (.elt (.var 3)))))) (.cons (.ife (.cmp .Eq (.var 6) (.frz (.lst .nil))) (.cons (.asg (.pt (.var 6)) (.frz (.lst (.cons (.call 16 (.cons (.var 0) (.cons (.var 1) .nil))) .nil)))) .nil) .nil) r)) [some (.ref p), some (.int many), some lt, o3, o4, o5, o6] m
   = evSs (Cn pg (n + 1)) r [some (.ref p), some (.int many), some lt, o3, o4, o5, some (.fz (st.map fun t : Nat => W.int (t : Int)))] m' := by
 obtain ⟨st, m1, h1, hl4, s1, he⟩ := stays (n := n) (o3 := o3) (o4 := o4) (o5 := o5) (o6 := o6) (lt := lt) hp hm hmany
 have hnil : ∀ ρ, evE (Cn pg (n + 1)) (.frz (.lst .nil)) ρ m1 = .ok (.fz []) m1 := fun ρ => frz_new (m0 := m1) (by simp only [E_var, E_cst, E_bin, E_not, E_and, E_cmp, E_chain, E_ife, E_tup, E_lst, E_idx, E_slc, E_callN, E_blt, E_isI, E_meth, E_fldN, E_make, E_mthN, E_set0, Es_nil, Es_cons, O_none, O_some, B_ok, List.length_nil, new]; rw [if_pos (Nat.zero_le _)]) rfl (s1.cm hm) rfl
 have hT : evT (Cn pg (n + 1)) (.cmp .Eq (.var 6) (.frz (.lst .nil))) [some (.ref p), some (.int many), some lt, o3, o4, o5, some (.fz (st.map fun t : Nat => W.int (t : Int)))] m1 = .ok (decide (st = [])) m1 := by
  simp only [T_cmp, E_var, List.getElem?_cons_zero, List.getElem?_cons_succ, List.set_cons_zero, List.set_cons_succ, B_ok, hnil, cmpop]
  have h1 : ∀ l : List Nat, allD (toD 59 m1) (l.map fun t : Nat => W.int (t : Int)) = some (l.map fun t : Nat => PyData.int (t : Int)) := fun l => by
   induction l with
   | nil => rfl
   | cons a r ih => simp only [List.map_cons, allD, ih]; rfl
  have h2 : toD 60 m1 (.fz (st.map fun t : Nat => W.int (t : Int))) = some (.list (st.map fun t : Nat => PyData.int (t : Int))) := by
   show (allD (toD 59 m1) _).map _ = _
   rw [h1]; rfl
  have h3 : toD 60 m1 (.fz []) = some (.list []) := rfl
  simp only [eqW, h2, h3]
  cases st with
  | nil => rfl
  | cons a r => rfl
 cases hst : st with
 | nil =>
  rw [hst] at hT he
  obtain ⟨d, m2, e1, s2, y1, y2⟩ := draw (n := n) (many := many) (s1.pot hp) (by omega) (by omega)
  refine ⟨[d.toNat], m2, fun s hs => by rw [List.mem_singleton] at hs; omega, by simp, by simp, s1.trans s2, fun r => ?_⟩
  have hf : evE (Cn pg (n + 1)) (.frz (.lst (.cons (.call 16 (.cons (.var 0) (.cons (.var 1) .nil))) .nil))) [some (.ref p), some (.int many), some lt, o3, o4, o5, some (.fz [])] m1 = .ok (.fz [.int d]) m2 := by
   refine frz_new (m0 := m2) ?_ s2.len (s2.cm (s1.cm hm)) rfl
   simp only [E_var, E_cst, E_bin, E_not, E_and, E_cmp, E_chain, E_ife, E_tup, E_lst, E_idx, E_slc, E_callN, E_blt, E_isI, E_meth, E_fldN, E_make, E_mthN, E_set0, Es_nil, Es_cons, O_none, O_some, B_ok, List.getElem?_cons_zero, List.getElem?_cons_succ, List.set_cons_zero, List.set_cons_succ, e1, new, List.length_cons, List.length_nil]
   rw [if_pos (by decide)]
  rw [seq_nx (ρ1 := [some (.ref p), some (.int many), some lt, o3, o4, o5, some (.fz [])]) (asg_to he rfl), seq_nx (ρ1 := [some (.ref p), some (.int many), some lt, o3, o4, o5, some (.fz [.int d])]) (m1 := m2) (by rw [if_t (m1 := m1) (by simpa using hT), seq_nx (asg_to hf rfl), ss_nil']; rfl)]
  simp [toNat_eq y1]
 | cons a r0 =>
  rw [hst] at hT he h1 hl4
  refine ⟨a :: r0, m1, h1, by simp, hl4, s1, fun r => ?_⟩
  rw [seq_nx (ρ1 := [some (.ref p), some (.int many), some lt, o3, o4, o5, some (.fz ((a :: r0).map fun t : Nat => W.int (t : Int)))]) (asg_to he rfl), seq_nx (ρ1 := [some (.ref p), some (.int many), some lt, o3, o4, o5, some (.fz ((a :: r0).map fun t : Nat => W.int (t : Int)))]) (m1 := m1) (by rw [if_f (m1 := m1) (by simpa using hT), ss_nil'])]
end My
end
section
set_option Elab.async false
set_option linter.all false
set_option maxRecDepth 1000000
set_option maxHeartbeats 4000000
namespace My
open PySem D
abbrev fzN (st : List Nat) : W := .fz (st.map fun t : Nat => W.int (t : Int))
theorem getS_ref {m : Mem} {n : Nat} {xs : List W} (h : m[n]? = some (.lst xs)) : getS m (.ref n) = some xs := by simp only [getS, getL, h]
theorem column {n p many : Nat} {m : Mem} {f : Nat → List Int} {st : List Nat} {o3 o5 : Option W} {lt : W} (hp : Pot m p) (hmany : many ≤ 4) (hst : ∀ s ∈ st, s < many) (hne : st ≠ []) (hsl : st.length ≤ 4) (hfl : ∀ s, s < many → (f s).length ≤ 100) :
  ∃ m' f' o3', PS p m m' ∧ evS (Cn pg (n + 1)) (.for_ (.var 3) (.rng (.var 1)) b19_2) [some (.ref p), some (.int many), some lt, o3, some (.ref (m.length + many)), o5, some (fzN st)] (MM many m f) = .ok (.nx [some (.ref p), some (.int many), some lt, o3', some (.ref (m.length + many)), o5, some (fzN st)]) (MM many m' f') ∧
   ∀ s, s < many → ∃ k ∈ st, f' s = f s ++ [(k : Int)] ∧ (s ∈ st → k = s) := by
 obtain ⟨ρ', M', hf, m', f', s1, rfl, ⟨o3', rfl⟩, h1, h2⟩ := for_inv (C := Cn pg (n + 1)) (t := .var 3) (it := .rng (.var 1)) (b := b19_2) (ρ := [some (.ref p), some (.int many), some lt, o3, some (.ref (m.length + many)), o5, some (fzN st)]) (m := MM many m f) (m1 := MM many m f) (s := .rng 0 many) (n := many) (rngI (by simp only [E_var, E_cst, E_bin, E_not, E_and, E_cmp, E_chain, E_ife, E_tup, E_lst, E_idx, E_slc, E_callN, E_blt, E_isI, E_meth, E_fldN, E_make, E_mthN, E_set0, Es_nil, Es_cons, O_none, O_some, B_ok, List.getElem?_cons_zero, List.getElem?_cons_succ, List.set_cons_zero, List.set_cons_succ]) (by omega)) rfl
  (fun i ρ M => ∃ m' f', PS p m m' ∧ M = MM many m' f' ∧ (∃ o3, ρ = [some (.ref p), some (.int many), some lt, o3, some (.ref (m.length + many)), o5, some (fzN st)]) ∧ (∀ s, s < i → ∃ k ∈ st, f' s = f s ++ [(k : Int)] ∧ (s ∈ st → k = s)) ∧ ∀ s, i ≤ s → f' s = f s)
  ⟨m, f, hp.refl, rfl, ⟨_, rfl⟩, by omega, fun _ _ => rfl⟩ (fun i ρ M hi => by
   rintro ⟨m', f', s1, rfl, ⟨o3, rfl⟩, h1, h2⟩
   have hB : m'.length = m.length := s1.len
   have e1 : evE (Cn pg (n + 1)) (.idx (.var 4) (.var 3)) [some (.ref p), some (.int many), some lt, some (.int i), some (.ref (m.length + many)), o5, some (fzN st)] (MM many m' f') = .ok (.ref (m.length + i)) (MM many m' f') := by
    have := MM.refs (many := many) (m := m') (f := f')
    rw [hB] at this
    have := idx_of (i := i) (getS_ref this) (by simpa using hi)
    simp only [E_var, E_cst, E_bin, E_not, E_and, E_cmp, E_chain, E_ife, E_tup, E_lst, E_idx, E_slc, E_callN, E_blt, E_isI, E_meth, E_fldN, E_make, E_mthN, E_set0, Es_nil, Es_cons, O_none, O_some, B_ok, List.getElem?_cons_zero, List.getElem?_cons_succ, List.set_cons_zero, List.set_cons_succ, this]
    simp
   have hin : evT (Cn pg (n + 1)) (.cmp .In (.var 3) (.var 6)) [some (.ref p), some (.int many), some lt, some (.int i), some (.ref (m.length + many)), o5, some (fzN st)] (MM many m' f') = .ok (decide (i ∈ st)) (MM many m' f') := by
    simp only [T_cmp, E_var, List.getElem?_cons_zero, List.getElem?_cons_succ, List.set_cons_zero, List.set_cons_succ, B_ok, cmpop, inop, mem_ints]
   have hv : ∃ k m2, k ∈ st ∧ (i ∈ st → k = i) ∧ PS p m' m2 ∧ evE (Cn pg (n + 1)) (.ife (.cmp .In (.var 3) (.var 6)) (.var 3) (.idx (.var 6) (.call 16 (.cons (.var 0) (.cons (.blt .len (.cons (.var 6) .nil)) .nil))))) [some (.ref p), some (.int many), some lt, some (.int i), some (.ref (m.length + many)), o5, some (fzN st)] (MM many m' f') = .ok (.int (k : Int)) (MM many m2 f') := by
    by_cases hm : i ∈ st
    ·refine ⟨i, m', hm, fun _ => rfl, (s1.pot hp).refl, ?_⟩
     rw [decide_eq_true hm] at hin
     rw [E_ife, hin]
     simp only [B_ok, if_true, E_var, List.getElem?_cons_zero, List.getElem?_cons_succ, List.set_cons_zero, List.set_cons_succ]
    ·have hpos : 0 < st.length := List.length_pos_iff.mpr hne
     obtain ⟨d, M2, d1, d2, y1, y2⟩ := draw (n := n) (many := (st.length : Int)) (MM.pot (many := many) (f := f') (s1.pot hp)) (by omega) (by omega)
     obtain ⟨m2, s2, rfl⟩ := MM.ps (by rw [hB]; exact hp.lt) d2
     have hd : d.toNat < st.length := by omega
     refine ⟨st[d.toNat], m2, List.getElem_mem hd, fun h => absurd h hm, s2, ?_⟩
     rw [decide_eq_false hm] at hin
     have e3 := idx_of (m := MM many m2 f') (w := fzN st) (xs := st.map fun t : Nat => W.int (t : Int)) (i := d.toNat) rfl (by simpa using hd)
     rw [toNat_eq y1] at e3
     have e4 : bltop .len [fzN st] (MM many m' f') = .ok (.int st.length) (MM many m' f') := by rw [len_of (xs := st.map fun t : Nat => W.int (t : Int)) rfl, List.length_map]
     rw [E_ife, hin]
     simp only [B_ok, Bool.false_eq_true, if_false, E_var, E_cst, E_bin, E_not, E_and, E_cmp, E_chain, E_ife, E_tup, E_lst, E_idx, E_slc, E_callN, E_blt, E_isI, E_meth, E_fldN, E_make, E_mthN, E_set0, Es_nil, Es_cons, O_none, O_some, B_ok, List.getElem?_cons_zero, List.getElem?_cons_succ, List.set_cons_zero, List.set_cons_succ, e4, d1, e3]
     simp
   obtain ⟨k, m2, k1, k2, s2, ev⟩ := hv
   have hB2 : m2.length = m.length := by rw [s2.len, hB]
   have hrow := MM.row (many := many) (m := m2) (f := f') hi
   have hrow1 := MM.row (many := many) (m := m') (f := f') hi
   rw [hB2] at hrow
   rw [hB] at hrow1
   have hset := MM.set (many := many) (m := m2) (f := f') (v := f' i ++ [(k : Int)]) hi
   rw [hB2] at hset
   refine ⟨.int i, [some (.ref p), some (.int many), some lt, some (.int i), some (.ref (m.length + many)), o5, some (fzN st)], [some (.ref p), some (.int many), some lt, some (.int i), some (.ref (m.length + many)), o5, some (fzN st)], MM many m2 (fun j => if j = i then f' i ++ [(k : Int)] else f' j), by rw [get_rng_it hi]; simp, by simp [bindT], .inl ?_, m2, _, s1.trans s2, rfl, ⟨_, rfl⟩, fun s hs => ?_, fun s hs => ?_⟩
   ·have e5 : kdM "append" = .lst := by decide
    have e6 : ((f' i).map W.int).length < lim := by rw [List.length_map, h2 i (Nat.le_refl _)]; have := hfl i hi; simp [lim]; omega
    rw [b19_2, seq_nx (expr_ok (w := .non) (m1 := MM many m2 (fun j => if j = i then f' i ++ [(k : Int)] else f' j)) ?_), ss_nil']
    rw [E_meth, e1]
    simp only [B_ok, kdOf, hrow1, e5, if_true, Es_cons, ev, Es_nil, methop, hrow, lstop, opAppend, e6]
    rw [← hset, List.map_append]
    rfl
   ·rcases Nat.lt_or_ge s i with h | h
    ·obtain ⟨k', a1, a2, a3⟩ := h1 s h
     exact ⟨k', a1, by simp only [if_neg (show ¬ s = i by omega)]; exact a2, a3⟩
    ·have : s = i := by omega
     subst this
     exact ⟨k, k1, by simp only [if_true, h2 s (Nat.le_refl _)], k2⟩
   ·simp only [if_neg (show ¬ s = i by omega)]
    exact h2 s (by omega))
  (fun ρ m _ => get_rng_fin (by omega))
 exact ⟨m', f', o3', s1, hf, h1⟩
theorem rows {n p many lt : Nat} {m : Mem} (hp : Pot m p) (hm : Cm m) (h2 : 2 ≤ many) (hmany : many ≤ 4) (hlt : lt ≤ 4) :
  ∃ m' f, PS p m m' ∧ D.runN pg (n + 1 + 1) 19 [.ref p, .int many, .int lt] m = .ok (.ref (m.length + many)) (MM many m' f) ∧ (∀ s, s < many → (f s).length = lt) ∧
   ∀ j s, j < lt → s < many → ∃ k, k < many ∧ (f s)[j]? = some (k : Int) ∧ (f k)[j]? = some (k : Int) := by
 have hI : evI (Cn pg (n + 1)) (.rng (.var 1)) [some (.ref p), some (.int many), some (.int lt), none, none, none, none] m = .ok (.rng 0 many) m := rngI (by simp only [E_var, E_cst, E_bin, E_not, E_and, E_cmp, E_chain, E_ife, E_tup, E_lst, E_idx, E_slc, E_callN, E_blt, E_isI, E_meth, E_fldN, E_make, E_mthN, E_set0, Es_nil, Es_cons, O_none, O_some, B_ok, List.getElem?_cons_zero, List.getElem?_cons_succ, List.set_cons_zero, List.set_cons_succ]) (by omega)
 obtain ⟨acc, ρ1, m1, hc, ⟨o, ho⟩, h1, rfl⟩ := compN_inv (get := Src.get (.rng 0 many)) (t := .var 3) (test := fun ρ m => evIfs (Cn pg (n + 1)) .nil ρ m) (body := fun ρ m acc => evG (Cn pg (n + 1)) (.elt (.lst .nil)) ρ m acc) (n := many)
  (fun i ρ m1 acc => (∃ o, ρ = [some (.ref p), some (.int many), some (.int lt), o, none, none, none]) ∧ m1 = m ++ rowsO i (fun _ => []) ∧ acc = refsW m.length i) (fun i ρ m1 acc hi => by
   rintro ⟨⟨o, rfl⟩, rfl, rfl⟩
   refine ⟨.int i, [some (.ref p), some (.int many), some (.int lt), some (.int i), none, none, none], by rw [get_rng_it hi]; simp, by simp [bindT], .inl ⟨m ++ rowsO i (fun _ => []), refsW m.length (i + 1), [some (.ref p), some (.int many), some (.int lt), some (.int i), none, none, none], m ++ rowsO (i + 1) (fun _ => []), by simp only [sIfs_nil, sIfs_cons], ?_, ⟨_, rfl⟩, rfl, rfl⟩⟩
   have e1 : (refsW m.length i).length < lim := by simp [lim]; omega
   simp only [sG_elt, sG_gen, E_var, E_cst, E_bin, E_not, E_and, E_cmp, E_chain, E_ife, E_tup, E_lst, E_idx, E_slc, E_callN, E_blt, E_isI, E_meth, E_fldN, E_make, E_mthN, E_set0, Es_nil, Es_cons, O_none, O_some, B_ok, List.length_nil, new]
   rw [if_pos (Nat.zero_le _)]
   simp only [B_ok, e1, if_true]
   have r1 : refsW m.length (i + 1) = refsW m.length i ++ [W.ref (m.length + i)] := by unfold refsW; rw [List.range_succ, List.map_append]; rfl
   have r2 : rowsO (i + 1) (fun _ => []) = rowsO i (fun _ => []) ++ [O.lst []] := by unfold rowsO; rw [List.range_succ, List.map_append]; rfl
   rw [r1, r2, List.append_assoc]
   simp)
  (fun ρ m acc _ => get_rng_fin (by omega)) many 0 [some (.ref p), some (.int many), some (.int lt), none, none, none, none] m [] (by omega) ⟨⟨_, rfl⟩, by simp, rfl⟩
 have hcomp := comp_ok (js := [3]) (ifs := .nil) hI hc
 have hcomp : evE (Cn pg (n + 1)) (.comp (.gen (.var 3) [3] (.rng (.var 1)) .nil (.elt (.lst .nil)))) [some (.ref p), some (.int many), some (.int lt), none, none, none, none] m = .ok (.ref (m.length + many)) (MM many m (fun _ => [])) := by
  rw [hcomp]
  subst h1
  simp [MM]
 obtain ⟨ρ', M', hf, m', f, s1, rfl, ⟨o3, o5, o6, rfl⟩, g1, g2⟩ := for_inv (C := Cn pg (n + 1)) (t := .var 5) (it := .rng (.var 2)) (b := b19_1) (ρ := [some (.ref p), some (.int many), some (.int lt), none, some (.ref (m.length + many)), none, none]) (m := MM many m (fun _ => [])) (m1 := MM many m (fun _ => [])) (s := .rng 0 lt) (n := lt) (rngI (by simp only [E_var, E_cst, E_bin, E_not, E_and, E_cmp, E_chain, E_ife, E_tup, E_lst, E_idx, E_slc, E_callN, E_blt, E_isI, E_meth, E_fldN, E_make, E_mthN, E_set0, Es_nil, Es_cons, O_none, O_some, B_ok, List.getElem?_cons_zero, List.getElem?_cons_succ, List.set_cons_zero, List.set_cons_succ]) (by omega)) rfl
  (fun i ρ M => ∃ m' f, PS p m m' ∧ M = MM many m' f ∧ (∃ o3 o5 o6, ρ = [some (.ref p), some (.int many), some (.int lt), o3, some (.ref (m.length + many)), o5, o6]) ∧ (∀ s, s < many → (f s).length = i) ∧ ∀ j s, j < i → s < many → ∃ k, k < many ∧ (f s)[j]? = some (k : Int) ∧ (f k)[j]? = some (k : Int))
  ⟨m, _, hp.refl, rfl, ⟨_, _, _, rfl⟩, fun _ _ => rfl, fun j s h => by omega⟩ (fun i ρ M hi => by
   rintro ⟨m', f, s1, rfl, ⟨o3, o5, o6, rfl⟩, g1, g2⟩
   have hB : m'.length = m.length := s1.len
   obtain ⟨st, M1, a1, a2, a5, a3, a4⟩ := stays1 (n := n) (o3 := o3) (o4 := some (.ref (m.length + many))) (o5 := some (.int i)) (o6 := o6) (lt := .int lt) (MM.pot (many := many) (f := f) (s1.pot hp)) (MM.cm (s1.cm hm)) h2 hmany
   obtain ⟨m2, s2, rfl⟩ := MM.ps (by rw [hB]; exact hp.lt) a3
   have hB2 : m2.length = m.length := by rw [s2.len, hB]
   obtain ⟨m3, f3, o3', s3, hf3, g3⟩ := column (n := n) (f := f) (o3 := o3) (o5 := some (.int i)) (lt := .int lt) (s2.pot (s1.pot hp)) hmany a1 a2 a5 (fun s hs => by rw [g1 s hs]; omega)
   rw [hB2] at hf3
   refine ⟨.int i, [some (.ref p), some (.int many), some (.int lt), o3, some (.ref (m.length + many)), some (.int i), o6], [some (.ref p), some (.int many), some (.int lt), o3', some (.ref (m.length + many)), some (.int i), some (fzN st)], MM many m3 f3, by rw [get_rng_it hi]; simp, by simp [bindT], .inl ?_, m3, f3, (s1.trans s2).trans s3, rfl, ⟨_, _, _, rfl⟩, fun s hs => ?_, fun j s hj hs => ?_⟩
   ·rw [b19_1, a4, seq_nx hf3, ss_nil']
   ·obtain ⟨k, _, e, _⟩ := g3 s hs
    rw [e, List.length_append, g1 s hs]; rfl
   ·rcases Nat.lt_or_ge j i with h | h
    ·obtain ⟨k, k1, k2, k3⟩ := g2 j s h hs
     obtain ⟨_, _, e1, _⟩ := g3 s hs
     obtain ⟨_, _, e2, _⟩ := g3 k k1
     exact ⟨k, k1, by rw [e1, List.getElem?_append_left (by rw [g1 s hs]; exact h)]; exact k2, by rw [e2, List.getElem?_append_left (by rw [g1 k k1]; exact h)]; exact k3⟩
    ·have : j = i := by omega
     subst this
     obtain ⟨k, k1, e1, _⟩ := g3 s hs
     obtain ⟨k', k1', e2, e3⟩ := g3 k (a1 k k1)
     have := e3 k1
     subst this
     exact ⟨k', a1 k' k1, by rw [e1, List.getElem?_append_right (by rw [g1 s hs]; omega), g1 s hs]; simp, by rw [e2, List.getElem?_append_right (by rw [g1 k' (a1 k' k1)]; omega), g1 k' (a1 k' k1)]; simp⟩)
  (fun ρ m _ => get_rng_fin (by omega))
 refine ⟨m', f, s1, ?_, g1, g2⟩
 refine run_rt (d := ⟨3, 7, b19⟩) rfl rfl ?_
 show evSs _ b19 [some (.ref p), some (.int many), some (.int lt), none, none, none, none] m = _
 rw [b19, seq_nx (ρ1 := [some (.ref p), some (.int many), some (.int lt), none, some (.ref (m.length + many)), none, none]) (asg_to hcomp rfl), seq_nx hf, seq_rt (ret_ok (w := .ref (m.length + many)) (m1 := MM many m' f) (by simp only [E_var, E_cst, E_bin, E_not, E_and, E_cmp, E_chain, E_ife, E_tup, E_lst, E_idx, E_slc, E_callN, E_blt, E_isI, E_meth, E_fldN, E_make, E_mthN, E_set0, Es_nil, Es_cons, O_none, O_some, B_ok, List.getElem?_cons_zero, List.getElem?_cons_succ, List.set_cons_zero, List.set_cons_succ]))]
end My
end
section
set_option Elab.async false
set_option linter.all false
set_option maxRecDepth 1000000
set_option maxHeartbeats 4000000
namespace My
open PySem D
abbrev fzI (r : List Int) : W := .fz (r.map .int)
noncomputable def told (ks ss ls : List Str) (R L : List (List Int)) : W := .fz [fzS ks, fzS ss, fzS ls, .fz (R.map fzI), .fz (L.map tupI)]
theorem pureF (R : List (List Int)) : pureWs (R.map fzI) = true := pureM (fun r => by simp [pureW, pureI]) R
theorem told_pure {ks ss ls : List Str} {R L : List (List Int)} : pureW (told ks ss ls R L) = true := by simp [told, pureW, pureWs, pureS, pureT, pureF]
abbrev TK (m : Mem) (ws : List Str) : Mem := m ++ [.lst (ws.map .str)]
section
variable {m m' M : Mem} {ws ws' : List Str} {p : Nat}
theorem TK.pot (h : Pot m p) : Pot (TK m ws) p := h.app
theorem TK.cm (h : Cm m) : Cm (TK m ws) := h.push (bels_pure _ (pureS _))
theorem TK.q : (TK m ws)[m.length]? = some (.lst (ws.map .str)) := by simp
theorem TK.ps (hp : p < m.length) (h : PS p (TK m ws) M) : ∃ m', PS p m m' ∧ M = TK m' ws := by
 obtain ⟨A, B, rfl⟩ := h
 exact ⟨m.set p (D.pot A B), ⟨A, B, rfl⟩, by rw [List.set_append_left _ _ hp]⟩
theorem TK.pq (hp : p < m.length) (h : PQ p m.length ws' (TK m ws) M) : ∃ m', PS p m m' ∧ M = TK m' ws' := by
 obtain ⟨m1, s1, rfl⟩ := h
 obtain ⟨m', s2, rfl⟩ := TK.ps hp s1
 exact ⟨m', s2, by rw [← s2.len]; simp⟩
end
theorem words_call {n p : Nat} {m : Mem} {ws : List Str} {ρ : D.Loc} {e : E} {lo : Nat} (hp : Pot m p) (hm : Cm m) (hw : ∀ z ∈ ws, Wd z) (hn : ws.Nodup) (hl : ws.length + lo + 2 ≤ 20) (h0 : ρ[0]? = some (some (.ref p))) (h1 : ρ[1]? = some (some (.ref m.length)))
  (he : ∀ d m1, callP (D.runN pg (n + 1 + 1 + 1) 16) [.ref p, .int 3] (TK m ws) = .ok (.int d) m1 → evE (Cn pg (n + 1 + 1 + 1)) e ρ (TK m ws) = .ok (.int (lo + d)) m1) :
  ∃ vs m', PS p m m' ∧ evE (Cn pg (n + 1 + 1 + 1)) (.frz (.call 18 (.cons (.var 0) (.cons e (.cons (.var 1) .nil))))) ρ (TK m ws) = .ok (fzS vs) (TK m' (ws ++ vs)) ∧ lo ≤ vs.length ∧ vs.length ≤ lo + 2 ∧ (∀ z ∈ ws ++ vs, Wd z) ∧ (ws ++ vs).Nodup := by
 obtain ⟨d, M1, e1, t1, y1, y2⟩ := draw (n := n + 1 + 1) (many := 3) (TK.pot (ws := ws) hp) (by decide) (by decide)
 obtain ⟨m1, s1, rfl⟩ := TK.ps hp.lt t1
 have hB : m1.length = m.length := s1.len
 have hc : (lo : Int) + d = ((lo + d.toNat : Nat) : Int) := by omega
 have hq : (TK m1 ws)[m.length]? = some (.lst (ws.map .str)) := by rw [← hB]; exact TK.q
 have hpq : p ≠ m.length := by have := hp.lt; omega
 obtain ⟨vs, M2, r1, r2, r3, r4, r5⟩ := words (n := n) (many := lo + d.toNat) (TK.pot (ws := ws) (s1.pot hp)) (TK.cm (s1.cm hm)) hpq hq hw hn (by omega)
 rw [← hB] at r2
 obtain ⟨m2, s2, rfl⟩ := TK.pq (by rw [hB]; exact hp.lt) r2
 have hB2 : m2.length = m.length := by rw [s2.len, hB]
 refine ⟨vs, m2, s1.trans s2, ?_, by omega, by omega, r4, r5⟩
 have hcall : callP (D.runN pg (n + 1 + 1 + 1) 18) [.ref p, .int ((lo + d.toNat : Nat) : Int), .ref m.length] (TK m1 ws) = .ok (fzS vs) (TK m2 (ws ++ vs)) := by rw [callP_imp rfl]; exact r1
 refine frz_val ?_ (by simp [hB2]) (TK.cm (s2.cm (s1.cm hm))) (by simp [pureW, pureS])
 have he := he d _ e1
 rw [hc] at he
 have v0 : evE (Cn pg (n + 1 + 1 + 1)) (.var 0) ρ (TK m ws) = .ok (.ref p) (TK m ws) := by rw [E_var, h0]
 have v1 : evE (Cn pg (n + 1 + 1 + 1)) (.var 1) ρ (TK m1 ws) = .ok (.ref m.length) (TK m1 ws) := by rw [E_var, h1]
 simp only [E_callN, Es_cons, v0, B_ok, he, v1, Es_nil, hcall]
theorem frW_rows {many : Nat} {m : Mem} {f : Nat → List Int} : frW (frG (MM many m f) m.length 8) (.ref (m.length + many)) = some (.fz (((List.range many).map f).map fzI)) := by
 have h1 : ∀ d s, s < many → frG (MM many m f) m.length (d + 1) (m.length + s) = some (fzI (f s)) := fun d s hs => by
  simp only [frG, MM.row hs]
  rw [if_neg (by omega), frWs_pure _ (pureI _)]
  rfl
 have h2 : ∀ l : List Nat, (∀ s ∈ l, s < many) → frWs (frG (MM many m f) m.length 7) (l.map fun i => W.ref (m.length + i)) = some (l.map fun s => fzI (f s)) := fun l => by
  induction l with
  | nil => intro _; rfl
  | cons a r ih =>
   intro h
   simp only [List.map_cons, frWs, frW, h1 6 a (h a List.mem_cons_self), ih fun s hs => h s (List.mem_cons_of_mem _ hs)]
 have h3 : frG (MM many m f) m.length (7 + 1) (m.length + many) = (frWs (frG (MM many m f) m.length 7) (refsW m.length many)).map .fz := by
  rw [frG, if_neg (by omega), MM.refs]
 show frG (MM many m f) m.length (7 + 1) (m.length + many) = _
 rw [h3, h2 _ fun s hs => List.mem_range.mp hs]
 simp [List.map_map, Function.comp_def]
theorem draws01 {n p i : Nat} {m : Mem} {ρ : D.Loc} {xs : List W} {js : List Nat} {it : E} (hp : Pot m p) (hm : Cm m) (hI : evI (Cn pg (n + 1)) it ρ m = .ok (.tup xs) m) (hl : xs.length ≤ 100) (h0 : ∀ x, ((clr js ρ).set i (some x))[0]? = some (some (.ref p))) :
  ∃ ns : List Int, ∃ m', PS p m m' ∧ ns.length = xs.length ∧ (∀ x ∈ ns, 0 ≤ x ∧ x < (2 : Int)) ∧ evE (Cn pg (n + 1)) (.blt .tuple (.cons (.frz (.comp (.gen (.var i) js it .nil (.elt (.call 16 (.cons (.var 0) (.cons (.cst (.int 2)) .nil))))))) .nil)) ρ m = .ok (tupI ns) m' := by
 obtain ⟨ws, ρ', m', hc, s1, hlen, hall⟩ := draws_comp (C := Cn pg (n + 1)) (f := 0) (get := Src.get (.tup xs)) (i := i) (e := .call 16 (.cons (.var 0) (.cons (.cst (.int 2)) .nil))) (ρ := clr js ρ) (n := xs.length) (P := fun w => ∃ d : Int, w = .int d ∧ 0 ≤ d ∧ d < 2) hp (fun m j hj => ⟨_, get_tup_it hj⟩) (fun m => get_tup_fin (by omega)) (by simp [lim]; omega)
  (fun x m1 h1 => by
   obtain ⟨d, m2, e1, s2, y1, y2⟩ := draw (n := n) (many := 2) (h1.pot hp) (by decide) (by decide)
   refine ⟨.int d, m2, ?_, s2, d, rfl, y1, y2⟩
   simp only [E_callN, Es_cons, E_var, h0, B_ok, E_cst, Es_nil, e1])
 obtain ⟨ns, rfl, hns⟩ : ∃ ns : List Int, ws = ns.map W.int ∧ ∀ x ∈ ns, 0 ≤ x ∧ x < (2 : Int) := by
  clear hc hlen
  induction ws with
  | nil => exact ⟨[], rfl, by simp⟩
  | cons w r ih =>
   obtain ⟨d, rfl, d1, d2⟩ := hall w List.mem_cons_self
   obtain ⟨l, rfl, l3⟩ := ih fun w hw => hall w (List.mem_cons_of_mem _ hw)
   refine ⟨d :: l, rfl, fun x hx => ?_⟩
   rcases List.mem_cons.mp hx with rfl | hx
   ·exact ⟨d1, d2⟩
   ·exact l3 x hx
 refine ⟨ns, m', s1, by simpa using hlen, hns, ?_⟩
 have hf := frz_new (C := Cn pg (n + 1)) (m0 := m') (comp_ok (js := js) (ifs := .nil) hI (by simpa only [Src.len] using hc)) s1.len (s1.cm hm) (pureI ns)
 rw [E_blt, Es_cons, hf]
 simp only [B_ok, Es_nil, bltop, getS, getL]
theorem table {n p : Nat} {m : Mem} (hp : Pot m p) (hm : Cm m) :
  ∃ ks ss ls R L m' ws, TabOk ks ss ls R L ∧ PS p m m' ∧ D.runN pg (n + 1 + 1 + 1 + 1) 20 [.ref p] m = .ok (told ks ss ls R L) (TK m' ws) := by
 obtain ⟨ks, m1, s1, e1, _, k2, kw, kn⟩ := words_call (n := n) (m := m) (ws := []) (ρ := [some (.ref p), some (.ref m.length), none, none, none, none, none, none]) (e := .call 16 (.cons (.var 0) (.cons (.cst (.int 3)) .nil))) (lo := 0) hp hm (by simp) (by simp) (by simp) rfl rfl (fun d m1 h => by simp only [E_var, E_cst, E_bin, E_not, E_and, E_cmp, E_chain, E_ife, E_tup, E_lst, E_idx, E_slc, E_callN, E_blt, E_isI, E_meth, E_fldN, E_make, E_mthN, E_set0, Es_nil, Es_cons, O_none, O_some, B_ok, List.getElem?_cons_zero, List.getElem?_cons_succ, List.set_cons_zero, List.set_cons_succ, h]; simp)
 rw [List.nil_append] at e1 kw kn
 have hB1 := s1.len
 obtain ⟨ss, m2, s2, e2, x2, x4, sw, sn⟩ := words_call (n := n) (m := m1) (ws := ks) (ρ := [some (.ref p), some (.ref m.length), some (fzS ks), none, none, none, none, none]) (e := .bin .Add (.cst (.int 2)) (.call 16 (.cons (.var 0) (.cons (.cst (.int 3)) .nil)))) (lo := 2) (s1.pot hp) (s1.cm hm) kw kn (by omega) rfl (by rw [hB1]; rfl) (fun d m1 h => by simp only [E_var, E_cst, E_bin, E_not, E_and, E_cmp, E_chain, E_ife, E_tup, E_lst, E_idx, E_slc, E_callN, E_blt, E_isI, E_meth, E_fldN, E_make, E_mthN, E_set0, Es_nil, Es_cons, O_none, O_some, B_ok, List.getElem?_cons_zero, List.getElem?_cons_succ, List.set_cons_zero, List.set_cons_succ, h, binop]; rfl)
 have hB2 := s2.len
 obtain ⟨ls, m3, s3, e3, _, l2, lw, ln⟩ := words_call (n := n) (m := m2) (ws := ks ++ ss) (ρ := [some (.ref p), some (.ref m.length), some (fzS ks), some (fzS ss), none, none, none, none]) (e := .call 16 (.cons (.var 0) (.cons (.cst (.int 3)) .nil))) (lo := 0) (s2.pot (s1.pot hp)) (s2.cm (s1.cm hm)) sw sn (by simp; omega) rfl (by rw [hB2, hB1]; rfl) (fun d m1 h => by simp only [E_var, E_cst, E_bin, E_not, E_and, E_cmp, E_chain, E_ife, E_tup, E_lst, E_idx, E_slc, E_callN, E_blt, E_isI, E_meth, E_fldN, E_make, E_mthN, E_set0, Es_nil, Es_cons, O_none, O_some, B_ok, List.getElem?_cons_zero, List.getElem?_cons_succ, List.set_cons_zero, List.set_cons_succ, h]; simp)
 have p3 := s3.pot (s2.pot (s1.pot hp))
 have c3 := s3.cm (s2.cm (s1.cm hm))
 have hpow : 2 ^ ks.length ≤ 4 := pow_le (by omega)
 obtain ⟨M4, f, t4, e4, f1, f2⟩ := rows (n := n + 1) (many := ss.length) (lt := 2 ^ ks.length) (TK.pot (ws := ks ++ ss ++ ls) p3) (TK.cm c3) x2 (by omega) hpow
 have hB4 := t4.len
 obtain ⟨m4, s4, rfl⟩ := TK.ps p3.lt t4
 have p4 := s4.pot p3
 have c4 := s4.cm c3
 have e5 : evE (Cn pg (n + 1 + 1 + 1)) (.frz (.call 19 (.cons (.var 0) (.cons (.blt .len (.cons (.var 3) .nil)) (.cons (.bin .LShift (.cst (.int 1)) (.blt .len (.cons (.var 2) .nil))) .nil))))) [some (.ref p), some (.ref m.length), some (fzS ks), some (fzS ss), some (fzS ls), none, none, none] (TK m3 (ks ++ ss ++ ls)) = .ok (.fz (((List.range ss.length).map f).map fzI)) (TK m4 (ks ++ ss ++ ls)) := by
  refine frz_ok (m0 := TK m4 (ks ++ ss ++ ls)) (l := rowsO ss.length f ++ [.lst (refsW (TK m4 (ks ++ ss ++ ls)).length ss.length)]) (w := .ref ((TK m4 (ks ++ ss ++ ls)).length + ss.length)) ?_ (by simp [s4.len]) (TK.cm c4) (frW_rows (m := TK m4 (ks ++ ss ++ ls)))
  have l1 : ∀ M z, bltop .len [fzS z] M = .ok (.int z.length) M := fun M z => by rw [len_of (xs := z.map .str) rfl, List.length_map]
  have g1 : (0 : Int) ≤ ks.length ∧ (ks.length : Int) ≤ 1000000 ∧ (1 : Int).natAbs < 2 ^ 64 := ⟨by omega, by omega, by decide⟩
  have g2 : (1 : Int) * 2 ^ ((ks.length : Int)).toNat = ((2 ^ ks.length : Nat) : Int) := by simp
  have hcall : callP (D.runN pg (n + 1 + 1 + 1) 19) [.ref p, .int ss.length, .int ((2 ^ ks.length : Nat) : Int)] (TK m3 (ks ++ ss ++ ls)) = .ok (.ref ((TK m4 (ks ++ ss ++ ls)).length + ss.length)) (MM ss.length (TK m4 (ks ++ ss ++ ls)) f) := by
   rw [callP_imp rfl, e4, hB4]
  simp only [E_var, E_cst, E_bin, E_not, E_and, E_cmp, E_chain, E_ife, E_tup, E_lst, E_idx, E_slc, E_callN, E_blt, E_isI, E_meth, E_fldN, E_make, E_mthN, E_set0, Es_nil, Es_cons, O_none, O_some, B_ok, List.getElem?_cons_zero, List.getElem?_cons_succ, List.set_cons_zero, List.set_cons_succ, l1, binop, g1, and_self, if_true, g2, hcall]
  rfl
 obtain ⟨acc, ρ', M5, hc, ⟨o6, o7, ho⟩, m5, L, h1, h2, h3, s5, rfl⟩ := compN_inv (get := Src.get (.tup (ss.map .str))) (t := .var 6) (test := fun ρ m => evIfs (Cn pg (n + 1 + 1 + 1)) .nil ρ m) (body := fun ρ m acc => evG (Cn pg (n + 1 + 1 + 1)) (.elt (.blt .tuple (.cons (.frz (.comp (.gen (.var 7) [7] (.var 4) .nil (.elt (.call 16 (.cons (.var 0) (.cons (.cst (.int 2)) .nil))))))) .nil))) ρ m acc) (n := ss.length)
  (fun i ρ M acc => (∃ o6 o7, ρ = [some (.ref p), some (.ref m.length), some (fzS ks), some (fzS ss), some (fzS ls), some (.fz (((List.range ss.length).map f).map fzI)), o6, o7]) ∧ ∃ (m5 : Mem) (L : List (List Int)), acc = L.map tupI ∧ L.length = i ∧ (∀ ns ∈ L, ns.length = ls.length ∧ ∀ x ∈ ns, 0 ≤ x ∧ x < (2 : Int)) ∧ PS p m4 m5 ∧ M = TK m5 (ks ++ ss ++ ls)) (fun i ρ M acc hi => by
   rintro ⟨⟨o6, o7, rfl⟩, m5, L, rfl, h2, h3, s5, rfl⟩
   have hi' : i < (ss.map W.str).length := by simpa using hi
   obtain ⟨ns, M6, t6, n1, n2, n3⟩ := draws01 (n := n + 1 + 1) (i := 7) (ρ := [some (.ref p), some (.ref m.length), some (fzS ks), some (fzS ss), some (fzS ls), some (.fz (((List.range ss.length).map f).map fzI)), some (.str ss[i]), o7]) (xs := ls.map .str) (js := [7]) (it := .var 4) (TK.pot (ws := ks ++ ss ++ ls) (s5.pot p4)) (TK.cm (s5.cm c4)) (by simp only [I_var, E_var, List.getElem?_cons_zero, List.getElem?_cons_succ, List.set_cons_zero, List.set_cons_succ, B_ok]; rfl) (by simp; omega) (fun x => rfl)
   obtain ⟨m6, s6, rfl⟩ := TK.ps (by rw [s5.len]; exact p4.lt) t6
   refine ⟨.str ss[i], [some (.ref p), some (.ref m.length), some (fzS ks), some (fzS ss), some (fzS ls), some (.fz (((List.range ss.length).map f).map fzI)), some (.str ss[i]), o7], by rw [get_tup_it hi']; simp, by simp [bindT], .inl ⟨TK m5 (ks ++ ss ++ ls), (L ++ [ns]).map tupI, [some (.ref p), some (.ref m.length), some (fzS ks), some (fzS ss), some (fzS ls), some (.fz (((List.range ss.length).map f).map fzI)), some (.str ss[i]), o7], TK m6 (ks ++ ss ++ ls), by simp only [sIfs_nil, sIfs_cons], ?_, ⟨_, _, rfl⟩, m6, L ++ [ns], rfl, by simp [h2], fun x hx => ?_, s5.trans s6, rfl⟩⟩
   ·have : (L.map tupI).length < lim := by simp [lim]; omega
    simp only [sG_elt, sG_gen, n3, B_ok]
    rw [if_pos this]
    simp
   ·rcases List.mem_append.mp hx with hx | hx
    ·exact h3 x hx
    ·rw [List.mem_singleton] at hx
     subst hx
     exact ⟨by simpa using n1, n2⟩)
  (fun ρ m acc _ => get_tup_fin (by simp)) ss.length 0 [some (.ref p), some (.ref m.length), some (fzS ks), some (fzS ss), some (fzS ls), some (.fz (((List.range ss.length).map f).map fzI)), none, none] (TK m4 (ks ++ ss ++ ls)) [] (by omega) ⟨⟨_, _, rfl⟩, m4, [], rfl, rfl, by simp, p4.refl, rfl⟩
 subst h1
 have p5 := s5.pot p4
 have c5 := s5.cm c4
 have hI6 : evI (Cn pg (n + 1 + 1 + 1)) (.var 3) [some (.ref p), some (.ref m.length), some (fzS ks), some (fzS ss), some (fzS ls), some (.fz (((List.range ss.length).map f).map fzI)), none, none] (TK m4 (ks ++ ss ++ ls)) = .ok (.tup (ss.map .str)) (TK m4 (ks ++ ss ++ ls)) := by simp only [I_var, E_var, List.getElem?_cons_zero, List.getElem?_cons_succ, List.set_cons_zero, List.set_cons_succ, B_ok]; rfl
 have e6 := frz_new (C := Cn pg (n + 1 + 1 + 1)) (m0 := TK m5 (ks ++ ss ++ ls)) (comp_ok (js := [6]) (ifs := .nil) hI6 (by simp only [Src.len, List.length_map]; exact hc)) (by simp [s5.len]) (TK.cm c5) (pureT L)
 refine ⟨ks, ss, ls, (List.range ss.length).map f, L, m5, ks ++ ss ++ ls, ⟨lw, ln, by omega, x2, by omega, by omega, by simp, h2, ?_, h3, ?_⟩, (((s1.trans s2).trans s3).trans s4).trans s5, ?_⟩
 ·intro ns hns
  obtain ⟨s, hs, rfl⟩ := List.mem_map.mp hns
  have hs := List.mem_range.mp hs
  refine ⟨f1 s hs, fun x hx => ?_⟩
  obtain ⟨j, hj, rfl⟩ := List.mem_iff_getElem.mp hx
  obtain ⟨k, k1, k2, _⟩ := f2 j s (by rw [f1 s hs] at hj; exact hj) hs
  rw [List.getElem?_eq_getElem hj] at k2
  have := Option.some.inj k2
  omega
 ·intro i hi x hx
  have hi : i < ss.length := by simpa using hi
  simp only [List.getElem_map, List.getElem_range] at hx ⊢
  obtain ⟨k, k1, k2, k3⟩ := f2 x i (by rw [f1 i hi] at hx; exact hx) hi
  have hx' : x < (f k).length := by rw [f1 k k1, ← f1 i hi]; exact hx
  rw [List.getElem?_eq_getElem hx] at k2
  rw [List.getElem?_eq_getElem hx'] at k3
  exact ⟨k, by simpa using k1, by simpa using hx', Option.some.inj k2, Option.some.inj k3⟩
 ·refine run_rt (d := ⟨1, 8, b20⟩) rfl rfl ?_
  show evSs _ b20 [some (.ref p), none, none, none, none, none, none, none] m = _
  rw [b20, seq_nx (ρ1 := [some (.ref p), some (.ref m.length), none, none, none, none, none, none]) (m1 := TK m []) (asg_to (w := .ref m.length) (by simp only [E_var, E_cst, E_bin, E_not, E_and, E_cmp, E_chain, E_ife, E_tup, E_lst, E_idx, E_slc, E_callN, E_blt, E_isI, E_meth, E_fldN, E_make, E_mthN, E_set0, Es_nil, Es_cons, O_none, O_some, B_ok, List.length_nil, new]; rw [if_pos (Nat.zero_le _)]; rfl) rfl)]
  rw [seq_nx (ρ1 := [some (.ref p), some (.ref m.length), some (fzS ks), none, none, none, none, none]) (asg_to e1 rfl)]
  rw [seq_nx (ρ1 := [some (.ref p), some (.ref m.length), some (fzS ks), some (fzS ss), none, none, none, none]) (asg_to e2 rfl)]
  rw [seq_nx (ρ1 := [some (.ref p), some (.ref m.length), some (fzS ks), some (fzS ss), some (fzS ls), none, none, none]) (asg_to e3 rfl)]
  rw [seq_nx (ρ1 := [some (.ref p), some (.ref m.length), some (fzS ks), some (fzS ss), some (fzS ls), some (.fz (((List.range ss.length).map f).map fzI)), none, none]) (asg_to e5 rfl)]
  refine seq_rt (ret_ok (frz_new (m0 := TK m5 (ks ++ ss ++ ls)) ?_ (by simp [s5.len]) (TK.cm c5) (by simp only [pureWs, pureW, pureS, pureT, pureF, Bool.and_self])))
  simp only [E_lst, Es_cons, E_var, List.getElem?_cons_zero, List.getElem?_cons_succ, List.set_cons_zero, List.set_cons_succ, B_ok, e6, Es_nil, List.length_cons, List.length_nil, new]
  rw [if_pos (by decide)]
end My
end
section
set_option Elab.async false
set_option linter.all false
set_option maxRecDepth 1000000
set_option maxHeartbeats 4000000
namespace My
open PySem D
section
variable {n : Nat} {m : Mem} {ks ss ls : List Str} {R L : List (List Int)}
theorem mth_key : mthop pg.cs (tab ks ss ls R L) "key_words" m = some 3 := rfl
theorem mth_state : mthop pg.cs (tab ks ss ls R L) "states" m = some 4 := rfl
theorem mth_lamp : mthop pg.cs (tab ks ss ls R L) "lamps" m = some 5 := rfl
theorem mth_letters : mthop pg.cs (tab ks ss ls R L) "letters" m = some 6 := rfl
theorem mth_goes : mthop pg.cs (tab ks ss ls R L) "goes" m = some 7 := rfl
theorem mth_lights : mthop pg.cs (tab ks ss ls R L) "lights" m = some 8 := rfl
theorem shWs_pure (k : Nat) : ∀ {ws : List W}, pureWs ws = true → shWs k ws = ws ∧ True := fun {ws} h => by
 refine ⟨?_, trivial⟩
 have : ∀ {w : W}, pureW w = true → shW k w = w := by
  intro w hw
  have := @W.rec (fun w => pureW w = true → shW k w = w) (fun ws => pureWs ws = true → shWs k ws = ws) (fun _ => rfl) (fun _ _ => rfl) (fun _ _ => rfl) (fun _ _ => rfl)
   (fun xs ih h => by simp only [shW, ih (by simpa only [pureW] using h)]) (fun xs ih h => by simp only [shW, ih (by simpa only [pureW] using h)]) (fun c ks vs ih h => by simp only [shW, ih (by simpa only [pureW] using h)])
   (fun n h => by simp [pureW] at h) (fun _ => rfl) (fun x r ih1 ih2 h => by simp only [pureWs, Bool.and_eq_true] at h; simp only [shWs, ih1 h.1, ih2 h.2]) w
  exact this hw
 induction ws with
 | nil => rfl
 | cons x r ih =>
  simp only [pureWs, Bool.and_eq_true] at h
  simp only [shWs, this h.1, ih h.2]
theorem list_meth {i : Nat} {f : Str} {xs : List W} {b : Ss} (hb : pg.fns[i]? = some ⟨1, 1, b⟩) (hbody : b = .cons (.ret (.blt .list (.cons (.fld (.var 0) f) .nil))) .nil) (hf : ∀ m, fldop pg.cs (tab ks ss ls R L) f m = .ok (.fz xs) m) (hp : pureWs xs = true) : callP (D.runN pg (n + 1) i) [tab ks ss ls R L] m = .ok (.ref m.length) (m ++ [.lst xs]) := by
 have h1 : D.runN pg (n + 1) i [tab ks ss ls R L] [] = .ok (.ref 0) [.lst xs] := by
  refine run_rt hb rfl ?_
  show evSs _ b [some (tab ks ss ls R L)] [] = _
  rw [hbody, seq_rt (ret_ok (w := .ref 0) (m1 := [.lst xs]) ?_)]
  simp only [E_var, E_cst, E_bin, E_not, E_and, E_cmp, E_chain, E_ife, E_tup, E_lst, E_idx, E_slc, E_callN, E_blt, E_isI, E_meth, E_fldN, E_make, E_mthN, E_set0, Es_nil, Es_cons, O_none, O_some, B_ok, List.getElem?_cons_zero, List.getElem?_cons_succ, List.set_cons_zero, List.set_cons_succ, hf, bltop, getS, getL, new, List.length_nil, List.nil_append]
 rw [callP_ref (by simp [pureWs, tab_pure]) h1 rfl]
 simp only [shW, Nat.add_zero, List.map_cons, List.map_nil, shO, (shWs_pure m.length hp).1]
theorem key_words : callP (D.runN pg (n + 1) 3) [tab ks ss ls R L] m = .ok (.ref m.length) (m ++ [.lst (ks.map .str)]) := list_meth rfl rfl (fun _ => fld_key) (pureS _)
theorem states_ : callP (D.runN pg (n + 1) 4) [tab ks ss ls R L] m = .ok (.ref m.length) (m ++ [.lst (ss.map .str)]) := list_meth rfl rfl (fun _ => fld_state) (pureS _)
theorem lamps_ : callP (D.runN pg (n + 1) 5) [tab ks ss ls R L] m = .ok (.ref m.length) (m ++ [.lst (ls.map .str)]) := list_meth rfl rfl (fun _ => fld_lamp) (pureS _)
theorem lights {s : Nat} (h : s < L.length) : callP (D.runN pg (n + 1) 8) [tab ks ss ls R L, .int s] m = .ok (tupI L[s]) m := by
 refine callP_pure (m1 := []) (by simp [pureWs, pureW, tab_pure]) (run_rt (d := ⟨2, 2, b8⟩) rfl rfl ?_) (by simp [pureW, pureI])
 show evSs _ b8 [some (tab ks ss ls R L), some (.int s)] [] = _
 have e1 := idx_of (m := []) (w := .fz (L.map tupI)) (xs := L.map tupI) (i := s) rfl (by simpa using h)
 simp only [List.getElem_map] at e1
 rw [b8, seq_rt (ret_ok (w := tupI L[s]) (m1 := []) ?_)]
 simp only [E_var, E_cst, E_bin, E_not, E_and, E_cmp, E_chain, E_ife, E_tup, E_lst, E_idx, E_slc, E_callN, E_blt, E_isI, E_meth, E_fldN, E_make, E_mthN, E_set0, Es_nil, Es_cons, O_none, O_some, B_ok, List.getElem?_cons_zero, List.getElem?_cons_succ, List.set_cons_zero, List.set_cons_succ, fld_light, e1]
end
theorem is_whole {n : Nat} {m : Mem} {i : Int} : callP (D.runN pg (n + 1) 22) [.int i] m = .ok (.bl true) m := by
 refine callP_pure (m1 := []) rfl (run_rt (d := ⟨1, 1, b22⟩) rfl rfl ?_) rfl
 show evSs _ b22 [some (.int i)] [] = _
 rw [b22, seq_rt (ret_ok (w := .bl true) (m1 := []) ?_)]
 simp [E_var, E_cst, E_bin, E_not, E_and, E_cmp, E_chain, E_ife, E_tup, E_lst, E_idx, E_slc, E_callN, E_blt, E_isI, E_meth, E_fldN, E_make, E_mthN, E_set0, Es_nil, Es_cons, O_none, O_some, B_ok, isTy]
theorem eqTup {m : Mem} {ns : List Int} : eqW m (tupI ns) (tupI ns) = .ok true m := by
 have h : toD (59 + 1) m (tupI ns) = some (.tuple (ns.map .int)) := by rw [toD_tup, allD_ints]; rfl
 exact eq_same h h
theorem strsD {m : Mem} {w : W} {ws : List Str} {k : Nat} (h : getL m w = some (ws.map .str)) (hw : ∀ z ∈ ws, Wd z) : toD (k + 1 + 1) m w = some (.list (ws.map .str)) := by
 rw [toD_getL h, allD_strs fun z hz => (hw z hz).small]; rfl
theorem eqStrs {m : Mem} {w : W} {ws : List Str} (h : getL m w = some (ws.map .str)) (hw : ∀ z ∈ ws, Wd z) : eqW m w (fzS ws) = .ok true m :=
 eq_same (strsD (k := 58) h hw) (strsD (k := 58) rfl hw)
end My
end
section
set_option Elab.async false
set_option linter.all false
set_option maxRecDepth 1000000
set_option maxHeartbeats 4000000
namespace My
open PySem D
noncomputable def isT : R W → Bool
 | .ok (.bl true) _ => true
 | _ => false
theorem isT_ok {r : R W} (h : isT r = true) : ∃ m, r = .ok (.bl true) m := by
 unfold isT at h
 split at h
 ·exact ⟨_, rfl⟩
 ·cases h
theorem lr0 (n : Nat) : isT (D.runN pg (n + 1 + 1) 24 [.int 0] []) = true := by kernel_rfl
theorem lr1 (n : Nat) : isT (D.runN pg (n + 1 + 1) 24 [.int 1] []) = true := by kernel_rfl
theorem lr2 (n : Nat) : isT (D.runN pg (n + 1 + 1) 24 [.int 2] []) = true := by kernel_rfl
theorem letters_right {n k : Nat} {m : Mem} (h : k ≤ 2) : callP (D.runN pg (n + 1 + 1) 24) [.int k] m = .ok (.bl true) m := by
 obtain ⟨m1, h1⟩ : ∃ m1, D.runN pg (n + 1 + 1) 24 [.int k] [] = .ok (.bl true) m1 := by
  rcases (by omega : k = 0 ∨ k = 1 ∨ k = 2) with rfl | rfl | rfl
  ·exact isT_ok (lr0 n)
  ·exact isT_ok (lr1 n)
  ·exact isT_ok (lr2 n)
 exact callP_pure rfl h1 rfl
theorem agrees {n : Nat} {m : Mem} {ks ss ls : List Str} {R L : List (List Int)} (o : TabOk ks ss ls R L) : callP (D.runN pg (n + 1 + 1 + 1) 23) [tab ks ss ls R L, told ks ss ls R L] m = .ok (.bl true) m := by
 have wk : ∀ z ∈ ks, Wd z := fun z hz => o.wd z (by simp [hz])
 have ws : ∀ z ∈ ss, Wd z := fun z hz => o.wd z (by simp [hz])
 have wl : ∀ z ∈ ls, Wd z := fun z hz => o.wd z (by simp [hz])
 let M1 : Mem := [.lst (ks.map .str)]
 let M2 : Mem := [.lst (ks.map .str), .lst (ss.map .str)]
 let M3 : Mem := [.lst (ks.map .str), .lst (ss.map .str), .lst (ls.map .str)]
 let ρ0 : D.Loc := [some (tab ks ss ls R L), some (told ks ss ls R L), some (fzS ks), some (fzS ss), some (fzS ls), some (.fz (R.map fzI)), some (.fz (L.map tupI)), none, none]
 have k1 : callP (D.runN pg (n + 1 + 1) 3) [tab ks ss ls R L] [] = .ok (.ref 0) M1 := key_words
 have k2 : callP (D.runN pg (n + 1 + 1) 4) [tab ks ss ls R L] M1 = .ok (.ref 1) M2 := states_
 have k3 : callP (D.runN pg (n + 1 + 1) 5) [tab ks ss ls R L] M2 = .ok (.ref 2) M3 := lamps_
 have q1 : eqW M1 (.ref 0) (fzS ks) = .ok true M1 := eqStrs rfl wk
 have q2 : eqW M2 (.ref 1) (fzS ss) = .ok true M2 := eqStrs rfl ws
 have q3 : eqW M3 (.ref 2) (fzS ls) = .ok true M3 := eqStrs rfl wl
 have g1 : (0 : Int) ≤ ks.length ∧ (ks.length : Int) ≤ 1000000 ∧ (1 : Int).natAbs < 2 ^ 64 := ⟨by omega, by have := o.k2; omega, by decide⟩
 have g2 : (1 : Int) * 2 ^ ((ks.length : Int)).toNat = ((2 ^ ks.length : Nat) : Int) := by simp
 have l1 : ∀ M z, bltop .len [fzS z] M = .ok (.int z.length) M := fun M z => by rw [len_of (xs := z.map .str) rfl, List.length_map]
 have sh : ∀ ρ M, ρ[2]? = some (some (fzS ks)) → evE (Cn pg (n + 1 + 1)) (.bin .LShift (.cst (.int 1)) (.blt .len (.cons (.var 2) .nil))) ρ M = .ok (.int ((2 ^ ks.length : Nat) : Int)) M := fun ρ M h => by
  simp only [E_bin, E_cst, B_ok, E_blt, Es_cons, E_var, h, Es_nil, l1, binop, g1, and_self, if_true, g2]
 have lt : ∀ M, callP (D.runN pg (n + 1 + 1) 6) [tab ks ss ls R L] M = .ok (.int ((2 ^ ks.length : Nat) : Int)) M := fun M => letters o.k2
 have t1 : evT (Cn pg (n + 1 + 1)) (.or (.cmp .NotEq (.mth (.var 0) "key_words" .nil) (.var 2)) (.or (.cmp .NotEq (.mth (.var 0) "states" .nil) (.var 3)) (.cmp .NotEq (.mth (.var 0) "lamps" .nil) (.var 4)))) ρ0 [] = .ok false M3 := by
  simp only [ρ0, T_or, T_cmp, E_mthN, E_var, List.getElem?_cons_zero, List.getElem?_cons_succ, List.set_cons_zero, List.set_cons_succ, B_ok, mth_key, mth_state, mth_lamp, Es_nil, k1, k2, k3, cmpop, q1, q2, q3, Bool.not_true, Bool.false_eq_true, if_false]
 have t2 : evT (Cn pg (n + 1 + 1)) (.or (.not (.call 22 (.cons (.mth (.var 0) "letters" .nil) .nil))) (.cmp .NotEq (.mth (.var 0) "letters" .nil) (.bin .LShift (.cst (.int 1)) (.blt .len (.cons (.var 2) .nil))))) ρ0 M3 = .ok false M3 := by
  have shh := sh ρ0 M3 rfl
  simp only [ρ0] at shh
  simp only [T_or, T_not, T_call, T_cmp, E_callN, Es_cons, E_mthN]
  simp only [ρ0, shh, E_var, List.getElem?_cons_zero, List.getElem?_cons_succ, List.set_cons_zero, List.set_cons_succ, B_ok, mth_letters, Es_nil, lt, is_whole, cmpop, eqI, D.truthy, decide_true, Bool.not_true, Bool.false_eq_true, if_false]
 obtain ⟨ρ', M', hf, rfl, o7, o8, rfl⟩ := for_inv (C := Cn pg (n + 1 + 1)) (t := .var 7) (it := .rng (.blt .len (.cons (.var 3) .nil))) (b := b23_1) (ρ := ρ0) (m := M3) (m1 := M3) (s := .rng 0 ss.length) (n := ss.length) (rngI (by simp only [ρ0, E_var, E_cst, E_bin, E_not, E_and, E_cmp, E_chain, E_ife, E_tup, E_lst, E_idx, E_slc, E_callN, E_blt, E_isI, E_meth, E_fldN, E_make, E_mthN, E_set0, Es_nil, Es_cons, O_none, O_some, B_ok, List.getElem?_cons_zero, List.getElem?_cons_succ, List.set_cons_zero, List.set_cons_succ, l1]) (by have := o.s4; omega)) rfl
  (fun i ρ M => M = M3 ∧ ∃ o7 o8, ρ = [some (tab ks ss ls R L), some (told ks ss ls R L), some (fzS ks), some (fzS ss), some (fzS ls), some (.fz (R.map fzI)), some (.fz (L.map tupI)), o7, o8]) ⟨rfl, _, _, rfl⟩ (fun i ρ M hi => by
   rintro ⟨rfl, o7, o8, rfl⟩
   have hL : i < L.length := by rw [o.tl]; exact hi
   have hR : i < R.length := by rw [o.rl]; exact hi
   have lg : ∀ M, callP (D.runN pg (n + 1 + 1) 8) [tab ks ss ls R L, .int i] M = .ok (tupI L[i]) M := fun M => lights hL
   have ix : idxop (.fz (L.map tupI)) (.int i) M3 = .ok (tupI L[i]) M3 := by
    have := idx_of (m := M3) (w := .fz (L.map tupI)) (xs := L.map tupI) (i := i) rfl (by simpa using hL)
    rw [this]; simp
   have t3 : evT (Cn pg (n + 1 + 1)) (.or (.not (.isI (.mth (.var 0) "lights" (.cons (.var 7) .nil)) "tuple")) (.cmp .NotEq (.mth (.var 0) "lights" (.cons (.var 7) .nil)) (.idx (.var 6) (.var 7)))) [some (tab ks ss ls R L), some (told ks ss ls R L), some (fzS ks), some (fzS ss), some (fzS ls), some (.fz (R.map fzI)), some (.fz (L.map tupI)), some (.int i), o8] M3 = .ok false M3 := by
    have hty : isTy M3 "tuple" (tupI L[i]) = some true := rfl
    simp only [T_or, T_not, T_isI, T_cmp, E_isI, E_mthN, E_idx, E_var, List.getElem?_cons_zero, List.getElem?_cons_succ, List.set_cons_zero, List.set_cons_succ, B_ok, mth_lights, Es_cons, Es_nil, lg, hty, D.truthy, ix, cmpop, eqTup, Bool.not_true, Bool.false_eq_true, if_false]
   have hrow : R[i].length = 2 ^ ks.length := (o.re R[i] (List.getElem_mem hR)).1
   obtain ⟨ρ2, M2', hf2, rfl, o8', rfl⟩ := for_inv (C := Cn pg (n + 1 + 1)) (t := .var 8) (it := .rng (.bin .LShift (.cst (.int 1)) (.blt .len (.cons (.var 2) .nil)))) (b := b23_2) (ρ := [some (tab ks ss ls R L), some (told ks ss ls R L), some (fzS ks), some (fzS ss), some (fzS ls), some (.fz (R.map fzI)), some (.fz (L.map tupI)), some (.int i), o8]) (m := M3) (m1 := M3) (s := .rng 0 (2 ^ ks.length)) (n := 2 ^ ks.length) (rngI (sh _ _ rfl) (by have := pow_le o.k2; omega)) rfl
    (fun j ρ M => M = M3 ∧ ∃ o8, ρ = [some (tab ks ss ls R L), some (told ks ss ls R L), some (fzS ks), some (fzS ss), some (fzS ls), some (.fz (R.map fzI)), some (.fz (L.map tupI)), some (.int i), o8]) ⟨rfl, _, rfl⟩ (fun j ρ M hj => by
     rintro ⟨rfl, o8, rfl⟩
     have hx : j < R[i].length := by rw [hrow]; exact hj
     have gs : ∀ M, callP (D.runN pg (n + 1 + 1) 7) [tab ks ss ls R L, .int i, .int j] M = .ok (.int R[i][j]) M := fun M => goes hR hx
     have ix1 : idxop (.fz (R.map fzI)) (.int i) M3 = .ok (fzI R[i]) M3 := by
      have := idx_of (m := M3) (w := .fz (R.map fzI)) (xs := R.map fzI) (i := i) rfl (by simpa using hR)
      rw [this]; simp
     have ix2 : idxop (fzI R[i]) (.int j) M3 = .ok (.int R[i][j]) M3 := by
      have := idx_of (m := M3) (w := fzI R[i]) (xs := R[i].map .int) (i := j) rfl (by simpa using hx)
      rw [this]; simp
     have t4 : evT (Cn pg (n + 1 + 1)) (.or (.not (.call 22 (.cons (.mth (.var 0) "goes" (.cons (.var 7) (.cons (.var 8) .nil))) .nil))) (.cmp .NotEq (.mth (.var 0) "goes" (.cons (.var 7) (.cons (.var 8) .nil))) (.idx (.idx (.var 5) (.var 7)) (.var 8)))) [some (tab ks ss ls R L), some (told ks ss ls R L), some (fzS ks), some (fzS ss), some (fzS ls), some (.fz (R.map fzI)), some (.fz (L.map tupI)), some (.int i), some (.int j)] M3 = .ok false M3 := by
      simp only [T_or, T_not, T_call, T_cmp, E_callN, E_mthN, E_idx, E_var, List.getElem?_cons_zero, List.getElem?_cons_succ, List.set_cons_zero, List.set_cons_succ, B_ok, mth_goes, Es_cons, Es_nil, gs, is_whole, D.truthy, ix1, ix2, cmpop, eqI, decide_true, Bool.not_true, Bool.false_eq_true, if_false]
     refine ⟨.int j, [some (tab ks ss ls R L), some (told ks ss ls R L), some (fzS ks), some (fzS ss), some (fzS ls), some (.fz (R.map fzI)), some (.fz (L.map tupI)), some (.int i), some (.int j)], [some (tab ks ss ls R L), some (told ks ss ls R L), some (fzS ks), some (fzS ss), some (fzS ls), some (.fz (R.map fzI)), some (.fz (L.map tupI)), some (.int i), some (.int j)], M3, by rw [get_rng_it hj]; simp, by simp [bindT], .inl ?_, rfl, _, rfl⟩
     rw [b23_2, seq_nx (ρ1 := [some (tab ks ss ls R L), some (told ks ss ls R L), some (fzS ks), some (fzS ss), some (fzS ls), some (.fz (R.map fzI)), some (.fz (L.map tupI)), some (.int i), some (.int j)]) (by rw [if_f t4, ss_nil']), ss_nil'])
    (fun ρ m _ => get_rng_fin (by omega))
   refine ⟨.int i, [some (tab ks ss ls R L), some (told ks ss ls R L), some (fzS ks), some (fzS ss), some (fzS ls), some (.fz (R.map fzI)), some (.fz (L.map tupI)), some (.int i), o8], [some (tab ks ss ls R L), some (told ks ss ls R L), some (fzS ks), some (fzS ss), some (fzS ls), some (.fz (R.map fzI)), some (.fz (L.map tupI)), some (.int i), o8'], M3, by rw [get_rng_it hi]; simp, by simp [bindT], .inl ?_, rfl, _, _, rfl⟩
   rw [b23_1, seq_nx (ρ1 := [some (tab ks ss ls R L), some (told ks ss ls R L), some (fzS ks), some (fzS ss), some (fzS ls), some (.fz (R.map fzI)), some (.fz (L.map tupI)), some (.int i), o8]) (by rw [if_f t3, ss_nil']), seq_nx hf2, ss_nil'])
  (fun ρ m _ => get_rng_fin (by omega))
 refine callP_pure (m1 := M3) (by simp [pureWs, tab_pure, told_pure]) (run_rt (d := ⟨2, 9, b23⟩) rfl rfl ?_) rfl
 show evSs _ b23 [some (tab ks ss ls R L), some (told ks ss ls R L), none, none, none, none, none, none, none] [] = _
 have a1 : evS (Cn pg (n + 1 + 1)) (.asg (.tup (.cons (.pt (.var 2)) (.cons (.pt (.var 3)) (.cons (.pt (.var 4)) (.cons (.pt (.var 5)) (.cons (.pt (.var 6)) .nil)))))) (.var 1)) [some (tab ks ss ls R L), some (told ks ss ls R L), none, none, none, none, none, none, none] [] = .ok (.nx ρ0) [] := by
  simp only [sS_asg, sS_expr, sS_ret, sS_retN, sS_ife, sS_for_, sS_pass, sS_brk, sS_cont, sS_never, sS_fas, E_var, List.getElem?_cons_zero, List.getElem?_cons_succ, List.set_cons_zero, List.set_cons_succ, B_ok, sA_pt, sA_sub, sA_tup, told, getS, getL, sAs_nil, sAs_cons, bindT, ρ0]
 rw [b23, seq_nx a1, seq_nx (ρ1 := ρ0) (by rw [if_f t1, ss_nil']), seq_nx (ρ1 := ρ0) (by rw [if_f t2, ss_nil']), seq_nx hf, seq_rt (ret_ok (w := .bl true) (m1 := M3) (by simp only [E_cst]))]
end My
end
section
set_option Elab.async false
set_option linter.all false
set_option maxRecDepth 1000000
set_option maxHeartbeats 4000000
namespace My
open PySem D
abbrev rowsL (R : List (List Int)) : Mem := R.map fun r => O.lst (r.map .int)
noncomputable def CP (b : Nat) (ks ss ls : List Str) (R L : List (List Int)) : Mem := [.lst (ks.map .str), .lst (ss.map .str), .lst (ls.map .str)] ++ (rowsL R ++ [.lst (refsW (b + 3) R.length), .lst (L.map tupI), .lst [.ref b, .ref (b + 1), .ref (b + 2), .ref (b + 3 + R.length), .ref (b + 4 + R.length)]])
section
variable {m : Mem} {ks ss ls : List Str} {R L : List (List Int)}
theorem CP.len {b : Nat} : (CP b ks ss ls R L).length = R.length + 6 := by simp [CP]
theorem CP.a0 : (m ++ CP m.length ks ss ls R L)[m.length]? = some (.lst (ks.map .str)) := by simp [CP]
theorem CP.a1 : (m ++ CP m.length ks ss ls R L)[m.length + 1]? = some (.lst (ss.map .str)) := by simp [CP]
theorem CP.a2 : (m ++ CP m.length ks ss ls R L)[m.length + 2]? = some (.lst (ls.map .str)) := by simp [CP]
theorem CP.row {i : Nat} (h : i < R.length) : (m ++ CP m.length ks ss ls R L)[m.length + 3 + i]? = some (.lst (R[i].map .int)) := by
 unfold CP
 rw [List.getElem?_append_right (by omega), List.getElem?_append_right (by simp; omega), List.getElem?_append_left (by simp; omega)]
 simp
 exact ⟨R[i], by rw [show m.length + 3 + i - m.length - 3 = i by omega, List.getElem?_eq_getElem h], rfl⟩
theorem CP.at_ {j : Nat} : (m ++ CP m.length ks ss ls R L)[m.length + 3 + R.length + j]? = [O.lst (refsW (m.length + 3) R.length), .lst (L.map tupI), .lst [.ref m.length, .ref (m.length + 1), .ref (m.length + 2), .ref (m.length + 3 + R.length), .ref (m.length + 4 + R.length)]][j]? := by
 unfold CP
 rw [List.getElem?_append_right (by omega), List.getElem?_append_right (by simp; omega), List.getElem?_append_right (by simp; omega)]
 congr 1
 simp
 omega
theorem CP.a3 : (m ++ CP m.length ks ss ls R L)[m.length + 3 + R.length]? = some (.lst (refsW (m.length + 3) R.length)) := CP.at_ (j := 0)
theorem CP.a4 : (m ++ CP m.length ks ss ls R L)[m.length + 4 + R.length]? = some (.lst (L.map tupI)) := by
 have := CP.at_ (m := m) (ks := ks) (ss := ss) (ls := ls) (R := R) (L := L) (j := 1)
 rw [show m.length + 3 + R.length + 1 = m.length + 4 + R.length by omega] at this
 exact this
theorem CP.h : (m ++ CP m.length ks ss ls R L)[m.length + 5 + R.length]? = some (.lst [.ref m.length, .ref (m.length + 1), .ref (m.length + 2), .ref (m.length + 3 + R.length), .ref (m.length + 4 + R.length)]) := by
 have := CP.at_ (m := m) (ks := ks) (ss := ss) (ls := ls) (R := R) (L := L) (j := 2)
 rw [show m.length + 3 + R.length + 2 = m.length + 5 + R.length by omega] at this
 exact this
theorem bel_refs {k b n : Nat} (h : b + n ≤ k) : belWs k (refsW b n) = true := by
 have : ∀ l : List Nat, (∀ i ∈ l, i < n) → belWs k (l.map fun i => W.ref (b + i)) = true := fun l => by
  induction l with
  | nil => intro _; rfl
  | cons a r ih =>
   intro hl
   have h1 := hl a List.mem_cons_self
   simp only [List.map_cons, belWs, belW, ih fun i hi => hl i (List.mem_cons_of_mem _ hi), Bool.and_true, decide_eq_true_eq]
   omega
 exact this _ fun i hi => List.mem_range.mp hi
theorem CP.cm (hm : Cm m) : Cm (m ++ CP m.length ks ss ls R L) := by
 refine hm.app fun o ho => ?_
 rw [CP.len]
 unfold CP at ho
 rcases List.mem_append.mp ho with ho | ho
 ·simp only [List.mem_cons, List.not_mem_nil, or_false] at ho
  rcases ho with rfl | rfl | rfl <;> exact bels_pure _ (pureS _)
 ·rcases List.mem_append.mp ho with ho | ho
  ·obtain ⟨r, _, rfl⟩ := List.mem_map.mp ho
   exact bels_pure _ (pureI _)
  ·simp only [List.mem_cons, List.not_mem_nil, or_false] at ho
   rcases ho with rfl | rfl | rfl
   ·exact bel_refs (by omega)
   ·exact bels_pure _ (pureT _)
   ·simp only [belO, belWs, belW, Bool.and_true, Bool.and_eq_true, decide_eq_true_eq]
    omega
theorem CP.parts : Parts (m ++ CP m.length ks ss ls R L) (.ref m.length) (.ref (m.length + 1)) (.ref (m.length + 2)) (.ref (m.length + 3 + R.length)) (.ref (m.length + 4 + R.length)) ks ss ls (refsW (m.length + 3) R.length) (L.map tupI) R L where
 k := by simp only [getL, CP.a0]
 s := by simp only [getL, CP.a1]
 l := by simp only [getL, CP.a2]
 r := ⟨by simp only [getL, CP.a3], by simp, fun i h h' => by
  simp only [List.getElem_map, List.getElem_range]
  exact getS_ref (CP.row h'), fun h => by simp [pureW] at h⟩
 t := ⟨by simp only [getL, CP.a4], by simp, fun i h h' => by simp [getS], fun h => by simp [pureW] at h⟩
theorem sh_CP {b : Nat} : (CP 0 ks ss ls R L).map (shO b) = CP b ks ss ls R L := by
 unfold CP
 have h1 : (rowsL R).map (shO b) = rowsL R := by
  rw [List.map_map]
  apply List.map_congr_left
  intro r _
  simp only [Function.comp, shO, (shWs_pure b (pureI r)).1]
 have h2 : ∀ l : List Nat, shWs b (l.map fun i => W.ref (0 + 3 + i)) = l.map fun i => W.ref (b + 3 + i) := fun l => by
  induction l with
  | nil => rfl
  | cons a r ih =>
   simp only [List.map_cons, shWs, shW, ih]
   congr 2
   omega
 simp only [List.map_append, h1, List.map_cons, List.map_nil, shO, (shWs_pure b (pureS ks)).1, (shWs_pure b (pureS ss)).1, (shWs_pure b (pureS ls)).1, h2, (shWs_pure b (pureT L)).1, shWs, shW, Nat.add_zero, Nat.zero_add]
 simp [Nat.add_assoc]
end
theorem copy {n : Nat} {m : Mem} {ks ss ls : List Str} {R L : List (List Int)} (o : TabOk ks ss ls R L) : callP (D.runN pg (n + 1) 21) [told ks ss ls R L] m = .ok (.ref (m.length + 5 + R.length)) (m ++ CP m.length ks ss ls R L) := by
 have hRl : R.length ≤ 4 := by rw [o.rl]; exact o.s4
 have h1 : D.runN pg (n + 1) 21 [told ks ss ls R L] [] = .ok (.ref (5 + R.length)) (CP 0 ks ss ls R L) := by
  refine run_rt (d := ⟨1, 2, b21⟩) rfl rfl ?_
  show evSs _ b21 [some (told ks ss ls R L), none] [] = _
  let K3 : Mem := [.lst (ks.map .str), .lst (ss.map .str), .lst (ls.map .str)]
  have ix : ∀ M (i : Nat) (h : i < 5), idxop (told ks ss ls R L) (.int i) M = .ok ([fzS ks, fzS ss, fzS ls, .fz (R.map fzI), .fz (L.map tupI)][i]'(by simpa using h)) M := fun M i h => idx_of (m := M) (w := told ks ss ls R L) (xs := [fzS ks, fzS ss, fzS ls, .fz (R.map fzI), .fz (L.map tupI)]) (i := i) rfl (by simpa using h)
  have i0 : ∀ M, idxop (told ks ss ls R L) (.int 0) M = .ok (fzS ks) M := fun M => ix M 0 (by decide)
  have i1 : ∀ M, idxop (told ks ss ls R L) (.int 1) M = .ok (fzS ss) M := fun M => ix M 1 (by decide)
  have i2 : ∀ M, idxop (told ks ss ls R L) (.int 2) M = .ok (fzS ls) M := fun M => ix M 2 (by decide)
  have i3 : ∀ M, idxop (told ks ss ls R L) (.int 3) M = .ok (.fz (R.map fzI)) M := fun M => ix M 3 (by decide)
  have i4 : ∀ M, idxop (told ks ss ls R L) (.int 4) M = .ok (.fz (L.map tupI)) M := fun M => ix M 4 (by decide)
  have hI : evI (Cn pg n) (.idx (.var 0) (.cst (.int 3))) [some (told ks ss ls R L), none] K3 = .ok (.tup (R.map fzI)) K3 := by simp only [I_idx, E_var, E_cst, E_bin, E_not, E_and, E_cmp, E_chain, E_ife, E_tup, E_lst, E_idx, E_slc, E_callN, E_blt, E_isI, E_meth, E_fldN, E_make, E_mthN, E_set0, Es_nil, Es_cons, O_none, O_some, B_ok, List.getElem?_cons_zero, List.getElem?_cons_succ, List.set_cons_zero, List.set_cons_succ, i3]; rfl
  obtain ⟨acc, ρ1, m1, hc, ⟨o1, ho⟩, h1, h2⟩ := compN_inv (get := Src.get (.tup (R.map fzI))) (t := .var 1) (test := fun ρ m => evIfs (Cn pg n) .nil ρ m) (body := fun ρ m acc => evG (Cn pg n) (.elt (.blt .list (.cons (.var 1) .nil))) ρ m acc) (n := R.length)
   (fun i ρ m1 acc => (∃ o, ρ = [some (told ks ss ls R L), o]) ∧ m1 = K3 ++ rowsL (R.take i) ∧ acc = refsW (0 + 3) i) (fun i ρ m1 acc hi => by
    rintro ⟨⟨o1, rfl⟩, rfl, rfl⟩
    have ht : R.take (i + 1) = R.take i ++ [R[i]] := by rw [List.take_add_one, List.getElem?_eq_getElem hi]; rfl
    refine ⟨fzI R[i], [some (told ks ss ls R L), some (fzI R[i])], by rw [get_tup_it (by simpa using hi)]; simp, by simp [bindT], .inl ⟨K3 ++ rowsL (R.take i), refsW (0 + 3) (i + 1), [some (told ks ss ls R L), some (fzI R[i])], K3 ++ rowsL (R.take (i + 1)), by simp only [sIfs_nil, sIfs_cons], ?_, ⟨_, rfl⟩, rfl, rfl⟩⟩
    have e1 : (refsW (0 + 3) i).length < lim := by simp [lim]; omega
    have r1 : refsW (0 + 3) (i + 1) = refsW (0 + 3) i ++ [W.ref (0 + 3 + i)] := by unfold refsW; rw [List.range_succ, List.map_append]; rfl
    have r2 : rowsL (R.take (i + 1)) = rowsL (R.take i) ++ [O.lst (R[i].map .int)] := by unfold rowsL; rw [ht, List.map_append]; rfl
    have r3 : (K3 ++ rowsL (R.take i)).length = 0 + 3 + i := by simp [K3]; omega
    simp only [sG_elt, sG_gen, E_var, E_cst, E_bin, E_not, E_and, E_cmp, E_chain, E_ife, E_tup, E_lst, E_idx, E_slc, E_callN, E_blt, E_isI, E_meth, E_fldN, E_make, E_mthN, E_set0, Es_nil, Es_cons, O_none, O_some, B_ok, List.getElem?_cons_zero, List.getElem?_cons_succ, List.set_cons_zero, List.set_cons_succ, bltop, getS, getL, new, e1, if_true, r1, r2, r3, List.append_assoc])
   (fun ρ m acc _ => get_tup_fin (by simp)) R.length 0 [some (told ks ss ls R L), none] K3 [] (by omega) ⟨⟨_, rfl⟩, by simp, rfl⟩
  subst h1 h2
  rw [List.take_length] at hc
  have hcomp : evE (Cn pg n) (.comp (.gen (.var 1) [1] (.idx (.var 0) (.cst (.int 3))) .nil (.elt (.blt .list (.cons (.var 1) .nil))))) [some (told ks ss ls R L), none] K3 = .ok (.ref (3 + R.length)) (K3 ++ rowsL R ++ [.lst (refsW (0 + 3) R.length)]) := by
   rw [comp_ok (js := [1]) (ifs := .nil) hI (by simp only [Src.len, List.length_map]; exact hc)]
   simp [K3]
   omega
  have a0 : evE (Cn pg n) (.blt .list (.cons (.idx (.var 0) (.cst (.int 0))) .nil)) [some (told ks ss ls R L), none] [] = .ok (.ref 0) [.lst (ks.map .str)] := by simp only [E_var, E_cst, E_bin, E_not, E_and, E_cmp, E_chain, E_ife, E_tup, E_lst, E_idx, E_slc, E_callN, E_blt, E_isI, E_meth, E_fldN, E_make, E_mthN, E_set0, Es_nil, Es_cons, O_none, O_some, B_ok, List.getElem?_cons_zero, List.getElem?_cons_succ, List.set_cons_zero, List.set_cons_succ, i0, bltop, getS, getL, new]; rfl
  have a1 : evE (Cn pg n) (.blt .list (.cons (.idx (.var 0) (.cst (.int 1))) .nil)) [some (told ks ss ls R L), none] [.lst (ks.map .str)] = .ok (.ref 1) [.lst (ks.map .str), .lst (ss.map .str)] := by simp only [E_var, E_cst, E_bin, E_not, E_and, E_cmp, E_chain, E_ife, E_tup, E_lst, E_idx, E_slc, E_callN, E_blt, E_isI, E_meth, E_fldN, E_make, E_mthN, E_set0, Es_nil, Es_cons, O_none, O_some, B_ok, List.getElem?_cons_zero, List.getElem?_cons_succ, List.set_cons_zero, List.set_cons_succ, i1, bltop, getS, getL, new]; rfl
  have a2 : evE (Cn pg n) (.blt .list (.cons (.idx (.var 0) (.cst (.int 2))) .nil)) [some (told ks ss ls R L), none] [.lst (ks.map .str), .lst (ss.map .str)] = .ok (.ref 2) K3 := by simp only [E_var, E_cst, E_bin, E_not, E_and, E_cmp, E_chain, E_ife, E_tup, E_lst, E_idx, E_slc, E_callN, E_blt, E_isI, E_meth, E_fldN, E_make, E_mthN, E_set0, Es_nil, Es_cons, O_none, O_some, B_ok, List.getElem?_cons_zero, List.getElem?_cons_succ, List.set_cons_zero, List.set_cons_succ, i2, bltop, getS, getL, new]; rfl
  have a4 : evE (Cn pg n) (.blt .list (.cons (.idx (.var 0) (.cst (.int 4))) .nil)) [some (told ks ss ls R L), none] (K3 ++ rowsL R ++ [.lst (refsW (0 + 3) R.length)]) = .ok (.ref (4 + R.length)) (K3 ++ rowsL R ++ [.lst (refsW (0 + 3) R.length)] ++ [.lst (L.map tupI)]) := by
   simp only [E_var, E_cst, E_bin, E_not, E_and, E_cmp, E_chain, E_ife, E_tup, E_lst, E_idx, E_slc, E_callN, E_blt, E_isI, E_meth, E_fldN, E_make, E_mthN, E_set0, Es_nil, Es_cons, O_none, O_some, B_ok, List.getElem?_cons_zero, List.getElem?_cons_succ, List.set_cons_zero, List.set_cons_succ, i4, bltop, getS, getL, new]
   simp [K3]
   omega
  rw [b21, seq_rt (ret_ok (w := .ref (5 + R.length)) (m1 := CP 0 ks ss ls R L) ?_)]
  simp only [E_lst, Es_cons, a0, B_ok, a1, a2, hcomp, a4, Es_nil, List.length_cons, List.length_nil, new]
  rw [if_pos (by decide)]
  simp [CP, K3]
  omega
 rw [callP_ref (by simp [pureWs, told_pure]) h1 rfl, sh_CP]
 simp [shW, Nat.add_assoc]
end My
end
section
set_option Elab.async false
set_option linter.all false
set_option maxRecDepth 1000000
set_option maxHeartbeats 4000000
namespace My
open PySem D
structure SJ (m : Mem) (fx : List (Nat × List W)) (J : List Nat) (c : Nat) (M : Mem) : Prop where
 pre : ∃ X, M = m ++ X
 cm : Cm M
 fix : ∀ q xs, (q, xs) ∈ fx → M[q]? = some (.lst xs)
 at_ : ∀ j ∈ J, m.length ≤ j ∧ (∀ q xs, (q, xs) ∈ fx → q ≠ j) ∧ ∃ xs, M[j]? = some (.lst xs) ∧ xs.length ≤ c
theorem SJ.set {m : Mem} {fx : List (Nat × List W)} {J : List Nat} {c c' : Nat} {M : Mem} {j : Nat} {xs : List W} (h : SJ m fx J c M) (hj : j ∈ J) (hb : belWs M.length xs = true) (hl : xs.length ≤ c') (hc : c ≤ c') : SJ m fx J c' (M.set j (.lst xs)) := by
 obtain ⟨j1, j2, ys, j3, j4⟩ := h.at_ j hj
 have hlt := (List.getElem?_eq_some_iff.mp j3).1
 obtain ⟨X, rfl⟩ := h.pre
 refine ⟨⟨X.set (j - m.length) (.lst xs), by rw [List.set_append_right _ _ j1]⟩, h.cm.set hb, fun q zs hq => ?_, fun i hi => ?_⟩
 ·rw [List.getElem?_set_ne (j2 q zs hq).symm]; exact h.fix q zs hq
 ·obtain ⟨i1, i2, zs, i3, i4⟩ := h.at_ i hi
  refine ⟨i1, i2, ?_⟩
  by_cases e : j = i
  ·subst e; exact ⟨xs, List.getElem?_set_self hlt, hl⟩
  ·exact ⟨zs, by rw [List.getElem?_set_ne e]; exact i3, by omega⟩
theorem bels_rev {k : Nat} : ∀ {xs : List W}, belWs k xs = true → belWs k xs.reverse = true := fun {xs} h => by
 have hall : ∀ {ys : List W}, belWs k ys = true ↔ ∀ y ∈ ys, belW k y = true := fun {ys} => by
  induction ys with
  | nil => simp [belWs]
  | cons y r ih => simp [belWs, ih]
 rw [hall] at h ⊢
 intro y hy
 exact h y (by simpa using hy)
theorem bels_app {k : Nat} : ∀ {xs ys : List W}, belWs k xs = true → belWs k ys = true → belWs k (xs ++ ys) = true
 | [], _, _, h => h
 | x :: r, ys, h, h' => by
  simp only [belWs, Bool.and_eq_true, List.cons_append] at h ⊢
  exact ⟨h.1, bels_app h.2 h'⟩
theorem SJ.bel {m : Mem} {fx : List (Nat × List W)} {J : List Nat} {c : Nat} {M : Mem} {j : Nat} {xs : List W} (h : SJ m fx J c M) (hx : M[j]? = some (.lst xs)) : belWs M.length xs = true := belM_all.mp h.cm _ (List.mem_of_getElem? hx)
section
variable {n : Nat} {m : Mem} {fx : List (Nat × List W)} {J : List Nat} {c : Nat} {M : Mem} {j : Nat} {ρ : D.Loc} {i : Nat}
theorem SJ.rev (h : SJ m fx J c M) (hj : j ∈ J) (hv : ρ[i]? = some (some (.ref j))) : ∃ M', SJ m fx J c M' ∧ M'.length = M.length ∧ evS (Cn pg n) (.expr (.meth (.var i) "reverse" .nil)) ρ M = .ok (.nx ρ) M' := by
 obtain ⟨j1, j2, ys, j3, j4⟩ := h.at_ j hj
 refine ⟨M.set j (.lst ys.reverse), h.set hj (bels_rev (h.bel j3)) (by simpa using j4) (Nat.le_refl _), by simp, ?_⟩
 have e1 : kdM "reverse" = .lst := by decide
 have e2 : lstop j ys "reverse" [] M = .ok .non (M.set j (.lst ys.reverse)) := by simp [lstop, opReverse]
 refine expr_ok (w := .non) ?_
 simp only [E_meth, E_var, hv, B_ok, kdOf, j3, e1, if_true, Es_nil, methop, e2]
theorem SJ.app0 (h : SJ m fx J c M) (hc : c ≤ 1000) (hj : j ∈ J) (hv : ρ[i]? = some (some (.ref j))) : ∃ M', SJ m fx J (c + 1) M' ∧ M'.length = M.length ∧ evS (Cn pg n) (.expr (.meth (.var i) "append" (.cons (.cst (.int 0)) .nil))) ρ M = .ok (.nx ρ) M' := by
 obtain ⟨j1, j2, ys, j3, j4⟩ := h.at_ j hj
 refine ⟨M.set j (.lst (ys ++ [.int 0])), h.set hj (bels_app (h.bel j3) rfl) (by simp; omega) (by omega), by simp, ?_⟩
 have e1 : kdM "append" = .lst := by decide
 have e2 : lstop j ys "append" [.int 0] M = .ok .non (M.set j (.lst (ys ++ [.int 0]))) := by
  have : ys.length < lim := by simp [lim]; omega
  simp [lstop, opAppend, this]
 refine expr_ok (w := .non) ?_
 simp only [E_meth, E_var, hv, B_ok, kdOf, j3, e1, if_true, Es_cons, E_cst, Es_nil, methop, e2]
theorem SJ.clear (h : SJ m fx J c M) (hj : j ∈ J) (hv : ρ[i]? = some (some (.ref j))) : ∃ M', SJ m fx J c M' ∧ M'.length = M.length ∧ evS (Cn pg n) (.expr (.meth (.var i) "clear" .nil)) ρ M = .ok (.nx ρ) M' := by
 obtain ⟨j1, j2, ys, j3, j4⟩ := h.at_ j hj
 refine ⟨M.set j (.lst []), h.set hj rfl (by simp) (Nat.le_refl _), by simp, ?_⟩
 have e1 : kdM "clear" = .lst := by decide
 have e2 : lstop j ys "clear" [] M = .ok .non (M.set j (.lst [])) := by simp [lstop, opClear]
 refine expr_ok (w := .non) ?_
 simp only [E_meth, E_var, hv, B_ok, kdOf, j3, e1, if_true, Es_nil, methop, e2]
end
theorem spoil {n : Nat} {m : Mem} {ks ss ls : List Str} {R L : List (List Int)} (hm : Cm m) (o : TabOk ks ss ls R L) : ∃ X, Cm (m ++ X) ∧ callP (D.runN pg (n + 1) 25) [.ref (m.length + 5 + R.length)] (m ++ CP m.length ks ss ls R L) = .ok .non (m ++ X) := by
 have hRl : R.length ≤ 4 := by rw [o.rl]; exact o.s4
 let h := m.length + 5 + R.length
 let H : List W := [.ref m.length, .ref (m.length + 1), .ref (m.length + 2), .ref (m.length + 3 + R.length), .ref (m.length + 4 + R.length)]
 let rr := m.length + 3 + R.length
 let J1 : List Nat := (List.range R.length).map (m.length + 3 + ·) ++ [m.length, m.length + 1, m.length + 2, m.length + 4 + R.length]
 let J2 : List Nat := [m.length, m.length + 1, m.length + 2, m.length + 3 + R.length, m.length + 4 + R.length]
 have kl := o.k2
 have sl := o.s4
 have ll := o.l2
 have s0 : SJ m [(h, H), (rr, refsW (m.length + 3) R.length)] J1 10 (m ++ CP m.length ks ss ls R L) := by
  refine ⟨⟨_, rfl⟩, CP.cm hm, fun q xs hq => ?_, fun j hj => ?_⟩
  ·simp only [List.mem_cons, Prod.mk.injEq, List.not_mem_nil, or_false] at hq
   rcases hq with ⟨rfl, rfl⟩ | ⟨rfl, rfl⟩
   ·exact CP.h
   ·exact CP.a3
  ·rcases List.mem_append.mp hj with hj | hj
   ·obtain ⟨i, hi, rfl⟩ := List.mem_map.mp hj
    have hi := List.mem_range.mp hi
    refine ⟨by omega, fun q xs hq => ?_, _, CP.row hi, ?_⟩
    ·simp only [List.mem_cons, Prod.mk.injEq, List.not_mem_nil, or_false] at hq
     rcases hq with ⟨rfl, rfl⟩ | ⟨rfl, rfl⟩
     ·show m.length + 5 + R.length ≠ m.length + 3 + i; omega
     ·show m.length + 3 + R.length ≠ m.length + 3 + i; omega
    ·rw [List.length_map, (o.re R[i] (List.getElem_mem hi)).1]
     have := pow_le o.k2
     omega
   ·have nq : ∀ q xs, (q, xs) ∈ [(h, H), (rr, refsW (m.length + 3) R.length)] → q = m.length + 5 + R.length ∨ q = m.length + 3 + R.length := fun q xs hq => by
     simp only [List.mem_cons, Prod.mk.injEq, List.not_mem_nil, or_false] at hq
     rcases hq with ⟨rfl, rfl⟩ | ⟨rfl, rfl⟩
     ·exact .inl rfl
     ·exact .inr rfl
    simp only [List.mem_cons, List.not_mem_nil, or_false] at hj
    rcases hj with rfl | rfl | rfl | rfl
    ·exact ⟨by omega, fun q xs hq => by rcases nq q xs hq with e | e <;> omega, _, CP.a0, by simp; omega⟩
    ·exact ⟨by omega, fun q xs hq => by rcases nq q xs hq with e | e <;> omega, _, CP.a1, by simp; omega⟩
    ·exact ⟨by omega, fun q xs hq => by rcases nq q xs hq with e | e <;> omega, _, CP.a2, by simp; omega⟩
    ·exact ⟨by omega, fun q xs hq => by rcases nq q xs hq with e | e <;> omega, _, CP.a4, by simp [o.tl]; omega⟩
 have ix3 : ∀ M, M[h]? = some (.lst H) → idxop (.ref h) (.int 3) M = .ok (.ref rr) M := fun M hh => idx_of (i := 3) (getS_ref hh) (by simp [H])
 have f0 := s0.fix h H (by simp)
 have g0 := s0.fix rr _ (List.mem_cons_of_mem _ List.mem_cons_self)
 obtain ⟨ρ1, M1, e1, s1, o1, rfl⟩ := for_inv (C := Cn pg n) (t := .var 1) (it := .idx (.var 0) (.cst (.int 3))) (b := b25_1) (ρ := [some (.ref h), none, none]) (m := m ++ CP m.length ks ss ls R L) (m1 := m ++ CP m.length ks ss ls R L) (s := .lst rr) (n := R.length) (by simp only [I_idx, E_var, E_cst, E_bin, E_not, E_and, E_cmp, E_chain, E_ife, E_tup, E_lst, E_idx, E_slc, E_callN, E_blt, E_isI, E_meth, E_fldN, E_make, E_mthN, E_set0, Es_nil, Es_cons, O_none, O_some, B_ok, List.getElem?_cons_zero, List.getElem?_cons_succ, List.set_cons_zero, List.set_cons_succ, ix3 _ f0, toI, srcT, srcOf, getL, g0]) (by simp only [Src.len, getL, g0]; simp)
  (fun i ρ M => SJ m [(h, H), (rr, refsW (m.length + 3) R.length)] J1 (10 + i) M ∧ ∃ o1, ρ = [some (.ref h), o1, none]) ⟨s0, _, rfl⟩ (fun i ρ M hi => by
   rintro ⟨s1, o1, rfl⟩
   have g1 := s1.fix rr _ (List.mem_cons_of_mem _ List.mem_cons_self)
   have hj : m.length + 3 + i ∈ J1 := List.mem_append_left _ (List.mem_map.mpr ⟨i, List.mem_range.mpr hi, rfl⟩)
   obtain ⟨Ma, sa, la, ea⟩ := s1.rev (n := n) (ρ := [some (.ref h), some (.ref (m.length + 3 + i)), none]) (i := 1) hj rfl
   obtain ⟨Mb, sb, lb, eb⟩ := sa.app0 (n := n) (ρ := [some (.ref h), some (.ref (m.length + 3 + i)), none]) (i := 1) (by omega) hj rfl
   refine ⟨.ref (m.length + 3 + i), [some (.ref h), some (.ref (m.length + 3 + i)), none], [some (.ref h), some (.ref (m.length + 3 + i)), none], Mb, by rw [get_lst g1, get_tup_it (by simpa using hi)]; simp, by simp [bindT], .inl ?_, sb, _, rfl⟩
   rw [b25_1, seq_nx ea, seq_nx eb, ss_nil'])
  (fun ρ M hq => by rw [get_lst (hq.1.fix rr _ (List.mem_cons_of_mem _ List.mem_cons_self))]; exact get_tup_fin (by simp))
 have s2 : SJ m [(h, H)] J2 20 M1 := by
  refine ⟨s1.pre, s1.cm, fun q xs hq => s1.fix q xs (by simp only [List.mem_singleton] at hq; rw [hq]; simp), fun j hj => ?_⟩
  have nq : ∀ q xs, (q, xs) ∈ [(h, H)] → q = m.length + 5 + R.length := fun q xs hq => by
   simp only [List.mem_singleton, Prod.mk.injEq] at hq
   exact hq.1
  have old : ∀ j, j ∈ J1 → ∃ xs, M1[j]? = some (.lst xs) ∧ xs.length ≤ 20 := fun j hj => by
   obtain ⟨_, _, xs, a, b⟩ := s1.at_ j hj
   exact ⟨xs, a, by omega⟩
  simp only [J2, List.mem_cons, List.not_mem_nil, or_false] at hj
  rcases hj with rfl | rfl | rfl | rfl | rfl
  ·exact ⟨by omega, fun q xs hq => by have := nq q xs hq; omega, old _ (by simp [J1])⟩
  ·exact ⟨by omega, fun q xs hq => by have := nq q xs hq; omega, old _ (by simp [J1])⟩
  ·exact ⟨by omega, fun q xs hq => by have := nq q xs hq; omega, old _ (by simp [J1])⟩
  ·exact ⟨by omega, fun q xs hq => by have := nq q xs hq; omega, _, s1.fix rr _ (List.mem_cons_of_mem _ List.mem_cons_self), by simp; omega⟩
  ·exact ⟨by omega, fun q xs hq => by have := nq q xs hq; omega, old _ (by simp [J1])⟩
 have HJ : ∀ i (hi : i < 5), ∃ j, j ∈ J2 ∧ H[i]'(by simpa [H] using hi) = .ref j := fun i hi => by
  rcases (by omega : i = 0 ∨ i = 1 ∨ i = 2 ∨ i = 3 ∨ i = 4) with rfl | rfl | rfl | rfl | rfl
  ·exact ⟨_, by simp [J2], rfl⟩
  ·exact ⟨_, by simp [J2], rfl⟩
  ·exact ⟨_, by simp [J2], rfl⟩
  ·exact ⟨_, by simp [J2], rfl⟩
  ·exact ⟨_, by simp [J2], rfl⟩
 have g2 := s2.fix h H (by simp)
 obtain ⟨ρ2, M2, e2, s3, o2, rfl⟩ := for_inv (C := Cn pg n) (t := .var 2) (it := .var 0) (b := b25_2) (ρ := [some (.ref h), o1, none]) (m := M1) (m1 := M1) (s := .lst h) (n := 5) (by simp only [I_var, E_var, E_cst, E_bin, E_not, E_and, E_cmp, E_chain, E_ife, E_tup, E_lst, E_idx, E_slc, E_callN, E_blt, E_isI, E_meth, E_fldN, E_make, E_mthN, E_set0, Es_nil, Es_cons, O_none, O_some, B_ok, List.getElem?_cons_zero, List.getElem?_cons_succ, List.set_cons_zero, List.set_cons_succ, toI, srcT, srcOf, getL, g2]) (by simp only [Src.len, getL, g2]; rfl)
  (fun i ρ M => SJ m [(h, H)] J2 20 M ∧ ∃ o2, ρ = [some (.ref h), o1, o2]) ⟨s2, _, rfl⟩ (fun i ρ M hi => by
   rintro ⟨s1, o2, rfl⟩
   have g1 := s1.fix h H (by simp)
   obtain ⟨j, hj, ej⟩ := HJ i hi
   obtain ⟨Ma, sa, la, ea⟩ := s1.rev (n := n) (ρ := [some (.ref h), o1, some (.ref j)]) (i := 2) hj rfl
   refine ⟨.ref j, [some (.ref h), o1, some (.ref j)], [some (.ref h), o1, some (.ref j)], Ma, by rw [get_lst g1, get_tup_it (by simpa [H] using hi), ej], by simp [bindT], .inl ?_, sa, _, rfl⟩
   rw [b25_2, seq_nx ea, ss_nil'])
  (fun ρ M hq => by rw [get_lst (hq.1.fix h H (by simp))]; exact get_tup_fin (by simp [H]))
 have g3 := s3.fix h H (by simp)
 let H2 : List W := [.ref m.length, .ref (m.length + 1)]
 have hcut : cutW H none (some 2) = H2 := rfl
 have hlt : ∀ j ∈ J2, j < M2.length := fun j hj => by obtain ⟨_, _, xs, a, _⟩ := s3.at_ j hj; exact (List.getElem?_eq_some_iff.mp a).1
 have s4 : SJ m [(M2.length, H2)] J2 20 (M2 ++ [.lst H2]) := by
  obtain ⟨X, hX⟩ := s3.pre
  refine ⟨⟨X ++ [.lst H2], by rw [hX, List.append_assoc]⟩, s3.cm.push ?_, fun q xs hq => ?_, fun j hj => ?_⟩
  ·have h1 := hlt m.length (by simp [J2])
   have h2 := hlt (m.length + 1) (by simp [J2])
   simp only [H2, belO, belWs, belW, Bool.and_true, Bool.and_eq_true, decide_eq_true_eq]
   omega
  ·simp only [List.mem_singleton, Prod.mk.injEq] at hq
   obtain ⟨rfl, rfl⟩ := hq
   simp
  ·obtain ⟨a1, _, xs, a3, a4⟩ := s3.at_ j hj
   have := hlt j hj
   refine ⟨a1, fun q xs hq => ?_, xs, by rw [List.getElem?_append_left this]; exact a3, a4⟩
   simp only [List.mem_singleton, Prod.mk.injEq] at hq
   omega
 have hI3 : evI (Cn pg n) (.slc (.var 0) .none (.some (.cst (.int 2)))) [some (.ref h), o1, o2] M2 = .ok (.lst M2.length) (M2 ++ [.lst H2]) := by
  have : (M2 ++ [O.lst H2])[M2.length]? = some (.lst H2) := by simp
  simp only [I_slc, E_var, E_cst, E_bin, E_not, E_and, E_cmp, E_chain, E_ife, E_tup, E_lst, E_idx, E_slc, E_callN, E_blt, E_isI, E_meth, E_fldN, E_make, E_mthN, E_set0, Es_nil, Es_cons, O_none, O_some, B_ok, List.getElem?_cons_zero, List.getElem?_cons_succ, List.set_cons_zero, List.set_cons_succ, slcop, getL, g3, hcut, new]
  simp only [toI, srcT, srcOf, getL, this]
 have g4 := s4.fix M2.length H2 (by simp)
 obtain ⟨ρ3, M3, e3, s5, o3, rfl⟩ := for_inv (C := Cn pg n) (t := .var 2) (it := .slc (.var 0) .none (.some (.cst (.int 2)))) (b := b25_3) (ρ := [some (.ref h), o1, o2]) (m := M2) (m1 := M2 ++ [.lst H2]) (s := .lst M2.length) (n := 2) hI3 (by simp only [Src.len, getL, g4]; rfl)
  (fun i ρ M => SJ m [(M2.length, H2)] J2 20 M ∧ ∃ o2, ρ = [some (.ref h), o1, o2]) ⟨s4, _, rfl⟩ (fun i ρ M hi => by
   rintro ⟨s1, o2, rfl⟩
   have g1 := s1.fix M2.length H2 (by simp)
   obtain ⟨j, hj, ej⟩ : ∃ j, j ∈ J2 ∧ H2[i]'(by simpa [H2] using hi) = .ref j := by
    rcases (by omega : i = 0 ∨ i = 1) with rfl | rfl
    ·exact ⟨_, by simp [J2], rfl⟩
    ·exact ⟨_, by simp [J2], rfl⟩
   obtain ⟨Ma, sa, la, ea⟩ := s1.clear (n := n) (ρ := [some (.ref h), o1, some (.ref j)]) (i := 2) hj rfl
   refine ⟨.ref j, [some (.ref h), o1, some (.ref j)], [some (.ref h), o1, some (.ref j)], Ma, by rw [get_lst g1, get_tup_it (by simpa [H2] using hi), ej], by simp [bindT], .inl ?_, sa, _, rfl⟩
   rw [b25_3, seq_nx ea, ss_nil'])
  (fun ρ M hq => by rw [get_lst (hq.1.fix M2.length H2 (by simp))]; exact get_tup_fin (by simp [H2]))
 obtain ⟨X, hX⟩ := s5.pre
 refine ⟨X, by rw [← hX]; exact s5.cm, ?_⟩
 rw [callP_imp rfl]
 refine run_nx (d := ⟨1, 3, b25⟩) (ρ := [some (.ref h), o1, o3]) rfl rfl ?_
 show evSs _ b25 [some (.ref h), none, none] _ = _
 rw [b25, seq_nx e1, seq_nx e2, seq_nx e3, ss_nil', hX]
end My
end
section
set_option Elab.async false
set_option linter.all false
set_option maxRecDepth 1000000
set_option maxHeartbeats 4000000
namespace My
open PySem D
theorem pot_ {n k : Nat} {ns : List Int} (hk : k < 100) : ∃ A B, D.runN pg (n + 1) 15 [.fz (ns.map .int), .int k] [] = .ok (.ref 0) [pot A B] := by
 have hc : ∃ c : Int, evE (Cn pg n) (.ife (.cmp .Lt (.var 1) (.blt .len (.cons (.var 0) .nil))) (.idx (.var 0) (.var 1)) (.cst (.int 0))) [some (.fz (ns.map .int)), some (.int k), none] [] = .ok (.int c) [] := by
  have hl : bltop .len [.fz (ns.map .int)] [] = .ok (.int ns.length) [] := by rw [len_of (xs := ns.map .int) rfl, List.length_map]
  by_cases h : k < ns.length
  ·refine ⟨ns[k], ?_⟩
   have h' : (k : Int) < ns.length := by omega
   have ix := idx_of (m := []) (w := .fz (ns.map .int)) (xs := ns.map .int) (i := k) rfl (by simpa using h)
   simp only [E_var, E_cst, E_bin, E_not, E_and, E_cmp, E_chain, E_ife, E_tup, E_lst, E_idx, E_slc, E_callN, E_blt, E_isI, E_meth, E_fldN, E_make, E_mthN, E_set0, Es_nil, Es_cons, O_none, O_some, B_ok, T_call, T_blt, T_isI, T_or, T_not, T_cmp, T_chain, List.getElem?_cons_zero, List.getElem?_cons_succ, List.set_cons_zero, List.set_cons_succ, hl, cmpop, h', decide_true, if_true, ix, List.getElem_map]
  ·refine ⟨0, ?_⟩
   have h' : ¬ (k : Int) < ns.length := by omega
   simp only [E_var, E_cst, E_bin, E_not, E_and, E_cmp, E_chain, E_ife, E_tup, E_lst, E_idx, E_slc, E_callN, E_blt, E_isI, E_meth, E_fldN, E_make, E_mthN, E_set0, Es_nil, Es_cons, O_none, O_some, B_ok, T_call, T_blt, T_isI, T_or, T_not, T_cmp, T_chain, List.getElem?_cons_zero, List.getElem?_cons_succ, List.set_cons_zero, List.set_cons_succ, hl, cmpop, h', decide_false, Bool.false_eq_true, if_false]
 obtain ⟨c, hc⟩ := hc
 have g : mulOk 31 k = true := by simp [mulOk]
 refine ⟨if (if c < 0 then -c else c) - 10 ^ 18 > 0 then (if c < 0 then -c else c) - 10 ^ 18 else 0, (if c < 0 then -c else c) % 2147483587 + 31 * k + 5, ?_⟩
 refine run_rt (d := ⟨2, 3, b15⟩) rfl rfl ?_
 show evSs _ b15 [some (.fz (ns.map .int)), some (.int k), none] [] = _
 rw [b15, seq_nx (ρ1 := [some (.fz (ns.map .int)), some (.int k), some (.int c)]) (asg_to hc rfl), seq_rt (ret_ok (w := .ref 0) (m1 := _) ?_)]
 simp [E_var, E_cst, E_bin, E_not, E_and, E_cmp, E_chain, E_ife, E_tup, E_lst, E_idx, E_slc, E_callN, E_blt, E_isI, E_meth, E_fldN, E_make, E_mthN, E_set0, Es_nil, Es_cons, O_none, O_some, B_ok, bltop, binop, g, new, lim]
theorem toldD {m : Mem} {k s l r t w : W} {ks ss ls : List Str} {rws : List W} {R L : List (List Int)} (o : TabOk ks ss ls R L) (q : Parts m k s l r t ks ss ls rws (L.map tupI) R L) (hw : getL m w = some [k, s, l, r, t]) (hr : ∀ i (h : i < rws.length) (h' : i < R.length), getL m rws[i] = some (R[i].map .int)) :
  toD (59 + 1) m w = some (.list [.list (ks.map .str), .list (ss.map .str), .list (ls.map .str), .list (R.map fun r => .list (r.map .int)), .list (L.map fun t => .tuple (t.map .int))]) := by
 have wk : ∀ z ∈ ks, Wd z := fun z hz => o.wd z (by simp [hz])
 have ws : ∀ z ∈ ss, Wd z := fun z hz => o.wd z (by simp [hz])
 have wl : ∀ z ∈ ls, Wd z := fun z hz => o.wd z (by simp [hz])
 have h1 : toD (58 + 1) m r = some (.list (R.map fun r => .list (r.map .int))) := by
  rw [toD_getL q.r.at_]
  have : allD (toD (57 + 1) m) rws = some (R.map fun r => PyData.list (r.map .int)) := by
   have : rws = (List.range rws.length).map fun i => rws.getD i .non := by
    apply List.ext_getElem
    ·simp
    ·intro i h1 h2; simp [h1]
   rw [this]
   have h2 : (R.map fun r => PyData.list (r.map PyData.int)) = (List.range rws.length).map fun i => PyData.list ((R.getD i []).map PyData.int) := by
    apply List.ext_getElem
    ·simp [q.r.len]
    ·intro i h1 h2
     have : i < R.length := by simpa using h1
     simp [this]
   rw [h2]
   refine allD_map fun i hi => ?_
   have hi := List.mem_range.mp hi
   have hi' : i < R.length := by rw [← q.r.len]; exact hi
   have e1 : rws.getD i .non = rws[i] := by simp [hi]
   have e2 : R.getD i [] = R[i] := by simp [hi']
   rw [e1, e2, toD_getL (hr i hi hi'), allD_ints]
   rfl
  rw [this]
  rfl
 have h2 : toD (58 + 1) m t = some (.list (L.map fun t => .tuple (t.map .int))) := by
  rw [toD_getL q.t.at_, allD_map (h := fun t => PyData.tuple (t.map .int)) fun a _ => by
   show toD (57 + 1) m (tupI a) = _
   rw [toD_tup, allD_ints]; rfl]
  rfl
 rw [toD_getL hw]
 have h3 := strsD (k := 57) q.k wk
 have h4 := strsD (k := 57) q.s ws
 have h5 := strsD (k := 57) q.l wl
 simp only [allD, h3, h4, h5, h1, h2]
 rfl
theorem same {m : Mem} {ks ss ls : List Str} {R L : List (List Int)} (o : TabOk ks ss ls R L) : eqW (m ++ CP m.length ks ss ls R L) (.ref (m.length + 5 + R.length)) (told ks ss ls R L) = .ok true (m ++ CP m.length ks ss ls R L) := by
 refine eq_same (toldD o CP.parts (by simp only [getL, CP.h]) fun i h h' => ?_) (toldD (k := fzS ks) (s := fzS ss) (l := fzS ls) (r := .fz (R.map fzI)) (t := .fz (L.map tupI)) (rws := R.map fzI) o ⟨rfl, rfl, rfl, ⟨rfl, by simp, fun i h h' => by simp [getS, getL], fun _ r hr => by obtain ⟨a, _, rfl⟩ := List.mem_map.mp hr; simp [pureW, pureI]⟩, ⟨rfl, by simp, fun i h h' => by simp [getS], fun _ r hr => by obtain ⟨a, _, rfl⟩ := List.mem_map.mp hr; simp [pureW, pureI]⟩⟩ rfl fun i h h' => by simp [getL])
 simp only [List.getElem_map, List.getElem_range, getL, CP.row h']
structure TT where
 ks : List Str
 ss : List Str
 ls : List Str
 R : List (List Int)
 L : List (List Int)
 ok : TabOk ks ss ls R L
noncomputable def TT.w (t : TT) : W := .tup [tab t.ks t.ss t.ls t.R t.L, told t.ks t.ss t.ls t.R t.L]
theorem TT.pure (t : TT) : pureW t.w = true := by simp [TT.w, pureW, pureWs, tab_pure, told_pure]
theorem turn {n k : Nat} {ns : List Int} {m : Mem} {ts : List TT} {o3 o4 o5 : Option W} (hk : k < 100) (hm : Cm m) (h0 : m[0]? = some (.lst (ts.map TT.w))) (hl : ts.length ≤ 100) :
  ∃ (t : TT) (m' : Mem) (o4' : Option W), Cm m' ∧ m'[0]? = some (.lst ((ts ++ [t]).map TT.w)) ∧ evSs (Cn pg (n + 1 + 1 + 1 + 1)) b26_1 [some (.fz (ns.map .int)), some (.ref 0), some (.int k), o3, o4, o5] m = .ok (.nx [some (.fz (ns.map .int)), some (.ref 0), some (.int k), some (told t.ks t.ss t.ls t.R t.L), o4', some (tab t.ks t.ss t.ls t.R t.L)]) m' := by
 obtain ⟨A, B, hpot⟩ := pot_ (n := n + 1 + 1 + 1) (ns := ns) hk
 have hpc : callP (D.runN pg (n + 1 + 1 + 1 + 1) 15) [.fz (ns.map .int), .int k] m = .ok (.ref m.length) (m ++ [pot A B]) := by
  rw [callP_ref (by simp [pureWs, pureW, pureI]) hpot rfl]
  rfl
 have hp : Pot (m ++ [pot A B]) m.length := ⟨A, B, by simp⟩
 obtain ⟨ks, ss, ls, R, L, m1, ws, ok, s1, e1⟩ := table (n := n) hp (hm.push (o := pot A B) rfl)
 obtain ⟨A', B', hs1⟩ := s1
 have hm1 : m1 = m ++ [pot A' B'] := by rw [hs1]; simp
 subst hm1
 have hm0 : 0 < m.length := (List.getElem?_eq_some_iff.mp h0).1
 have hT : evE (Cn pg (n + 1 + 1 + 1 + 1)) (.frz (.call 20 (.cons (.call 15 (.cons (.var 0) (.cons (.var 2) .nil))) .nil))) [some (.fz (ns.map .int)), some (.ref 0), some (.int k), o3, o4, o5] m = .ok (told ks ss ls R L) m := by
  refine frz_ok (m0 := m) (l := [pot A' B', .lst (ws.map .str)]) (w := told ks ss ls R L) ?_ rfl hm (frW_pure _ told_pure)
  have : callP (D.runN pg (n + 1 + 1 + 1 + 1) 20) [.ref m.length] (m ++ [pot A B]) = .ok (told ks ss ls R L) (m ++ [pot A' B', .lst (ws.map .str)]) := by
   rw [callP_imp rfl, e1]
   simp
  simp only [E_var, E_cst, E_bin, E_not, E_and, E_cmp, E_chain, E_ife, E_tup, E_lst, E_idx, E_slc, E_callN, E_blt, E_isI, E_meth, E_fldN, E_make, E_mthN, E_set0, Es_nil, Es_cons, O_none, O_some, B_ok, List.getElem?_cons_zero, List.getElem?_cons_succ, List.set_cons_zero, List.set_cons_succ, hpc, this]
 let ρ1 : D.Loc := [some (.fz (ns.map .int)), some (.ref 0), some (.int k), some (told ks ss ls R L), some (.ref (m.length + 5 + R.length)), o5]
 let M1 := m ++ CP m.length ks ss ls R L
 have e2 : callP (D.runN pg (n + 1 + 1 + 1 + 1) 21) [told ks ss ls R L] m = .ok (.ref (m.length + 5 + R.length)) M1 := copy ok
 have ix : ∀ (i : Nat) (hi : i < 5), idxop (.ref (m.length + 5 + R.length)) (.int i) M1 = .ok ([W.ref m.length, .ref (m.length + 1), .ref (m.length + 2), .ref (m.length + 3 + R.length), .ref (m.length + 4 + R.length)][i]'(by simpa using hi)) M1 := fun i hi => idx_of (getS_ref CP.h) (by simpa using hi)
 have i0 : idxop (.ref (m.length + 5 + R.length)) (.int 0) M1 = .ok (.ref m.length) M1 := ix 0 (by decide)
 have i1 : idxop (.ref (m.length + 5 + R.length)) (.int 1) M1 = .ok (.ref (m.length + 1)) M1 := ix 1 (by decide)
 have i2 : idxop (.ref (m.length + 5 + R.length)) (.int 2) M1 = .ok (.ref (m.length + 2)) M1 := ix 2 (by decide)
 have i3 : idxop (.ref (m.length + 5 + R.length)) (.int 3) M1 = .ok (.ref (m.length + 3 + R.length)) M1 := ix 3 (by decide)
 have i4 : idxop (.ref (m.length + 5 + R.length)) (.int 4) M1 = .ok (.ref (m.length + 4 + R.length)) M1 := ix 4 (by decide)
 have e3 := table_make (n := n) (M := M1) (ρ := ρ1) (es := .cons (.idx (.var 4) (.cst (.int 0))) (.cons (.idx (.var 4) (.cst (.int 1))) (.cons (.idx (.var 4) (.cst (.int 2))) (.cons (.idx (.var 4) (.cst (.int 3))) (.cons (.idx (.var 4) (.cst (.int 4))) .nil))))) (by simp only [ρ1, E_var, E_cst, E_bin, E_not, E_and, E_cmp, E_chain, E_ife, E_tup, E_lst, E_idx, E_slc, E_callN, E_blt, E_isI, E_meth, E_fldN, E_make, E_mthN, E_set0, Es_nil, Es_cons, O_none, O_some, B_ok, List.getElem?_cons_zero, List.getElem?_cons_succ, List.set_cons_zero, List.set_cons_succ, i0, i1, i2, i3, i4]) (CP.cm hm) CP.parts ok
 let ρ2 : D.Loc := [some (.fz (ns.map .int)), some (.ref 0), some (.int k), some (told ks ss ls R L), some (.ref (m.length + 5 + R.length)), some (tab ks ss ls R L)]
 have ag : ∀ M, callP (D.runN pg (n + 1 + 1 + 1 + 1) 23) [tab ks ss ls R L, told ks ss ls R L] M = .ok (.bl true) M := fun M => agrees ok
 have lr : ∀ M, callP (D.runN pg (n + 1 + 1 + 1 + 1) 24) [.int ks.length] M = .ok (.bl true) M := fun M => letters_right ok.k2
 have t0 : idxop (told ks ss ls R L) (.int 0) M1 = .ok (fzS ks) M1 := rfl
 have l1 : bltop .len [fzS ks] M1 = .ok (.int ks.length) M1 := by rw [len_of (xs := ks.map .str) rfl, List.length_map]
 have sm : eqW M1 (.ref (m.length + 5 + R.length)) (told ks ss ls R L) = .ok true M1 := same ok
 have t1 : evT (Cn pg (n + 1 + 1 + 1 + 1)) (.or (.cmp .NotEq (.var 4) (.var 3)) (.or (.not (.call 23 (.cons (.var 5) (.cons (.var 3) .nil)))) (.not (.call 24 (.cons (.blt .len (.cons (.idx (.var 3) (.cst (.int 0))) .nil)) .nil))))) ρ2 M1 = .ok false M1 := by
  simp only [ρ2, E_var, E_cst, E_bin, E_not, E_and, E_cmp, E_chain, E_ife, E_tup, E_lst, E_idx, E_slc, E_callN, E_blt, E_isI, E_meth, E_fldN, E_make, E_mthN, E_set0, Es_nil, Es_cons, O_none, O_some, B_ok, T_call, T_blt, T_isI, T_or, T_not, T_cmp, T_chain, List.getElem?_cons_zero, List.getElem?_cons_succ, List.set_cons_zero, List.set_cons_succ, cmpop, sm, ag, t0, l1, lr, D.truthy, Bool.not_true, Bool.false_eq_true, if_false]
 obtain ⟨X, cX, e4⟩ := spoil (n := n + 1 + 1 + 1) hm ok
 let t : TT := ⟨ks, ss, ls, R, L, ok⟩
 have kA : kdM "append" = .lst := by decide
 have kC : kdM "clear" = .lst := by decide
 let M2 := m ++ X
 let M3 := M2 ++ [O.lst (ks.map .str ++ [.str "more"])]
 let M4 := M3 ++ [O.lst []]
 let M5 := M4 ++ [O.lst (ls.map .str ++ [.str "more"])]
 have g1 : ∀ {M : Mem} {xs : List W}, (M ++ [O.lst xs])[M.length]? = some (.lst xs) := by simp
 have g2 : ∀ {M : Mem} {o o' : O}, (M ++ [o]).set M.length o' = M ++ [o'] := by simp
 have e5 : evE (Cn pg (n + 1 + 1 + 1 + 1)) (.meth (.mth (.var 5) "key_words" .nil) "append" (.cons (.cst (.str "more")) .nil)) ρ2 M2 = .ok .non M3 := by
  have hk2 : (ks.map W.str).length < lim := by have := ok.k2; simp [lim]; omega
  simp only [ρ2, E_var, E_cst, E_bin, E_not, E_and, E_cmp, E_chain, E_ife, E_tup, E_lst, E_idx, E_slc, E_callN, E_blt, E_isI, E_meth, E_fldN, E_make, E_mthN, E_set0, Es_nil, Es_cons, O_none, O_some, B_ok, List.getElem?_cons_zero, List.getElem?_cons_succ, List.set_cons_zero, List.set_cons_succ, mth_key, key_words, kdOf, g1, kA, if_true, methop, lstop, opAppend, hk2, g2]
  rfl
 have e6 : evE (Cn pg (n + 1 + 1 + 1 + 1)) (.meth (.mth (.var 5) "states" .nil) "clear" .nil) ρ2 M3 = .ok .non M4 := by
  have c1 : lstop M3.length (ss.map .str) "clear" [] (M3 ++ [O.lst (ss.map .str)]) = .ok .non M4 := by simp [lstop, opClear, M4]
  simp only [ρ2, E_var, E_cst, E_bin, E_not, E_and, E_cmp, E_chain, E_ife, E_tup, E_lst, E_idx, E_slc, E_callN, E_blt, E_isI, E_meth, E_fldN, E_make, E_mthN, E_set0, Es_nil, Es_cons, O_none, O_some, B_ok, List.getElem?_cons_zero, List.getElem?_cons_succ, List.set_cons_zero, List.set_cons_succ, mth_state, states_, kdOf, g1, kC, if_true, methop, c1]
 have e7 : evE (Cn pg (n + 1 + 1 + 1 + 1)) (.meth (.mth (.var 5) "lamps" .nil) "append" (.cons (.cst (.str "more")) .nil)) ρ2 M4 = .ok .non M5 := by
  have hk2 : (ls.map W.str).length < lim := by have := ok.l2; simp [lim]; omega
  simp only [ρ2, E_var, E_cst, E_bin, E_not, E_and, E_cmp, E_chain, E_ife, E_tup, E_lst, E_idx, E_slc, E_callN, E_blt, E_isI, E_meth, E_fldN, E_make, E_mthN, E_set0, Es_nil, Es_cons, O_none, O_some, B_ok, List.getElem?_cons_zero, List.getElem?_cons_succ, List.set_cons_zero, List.set_cons_succ, mth_lamp, lamps_, kdOf, g1, kA, if_true, methop, lstop, opAppend, hk2, g2]
  rfl
 have h5 : M5[0]? = some (.lst (ts.map TT.w)) := by
  simp only [M5, M4, M3, M2, List.append_assoc]
  rw [List.getElem?_append_left hm0]; exact h0
 have cm5 : Cm M5 := ((cX.push (o := .lst (ks.map .str ++ [.str "more"])) (bels_pure _ (by rw [pureA, pureS]; rfl))).push (o := .lst []) rfl).push (o := .lst (ls.map .str ++ [.str "more"])) (bels_pure _ (by rw [pureA, pureS]; rfl))
 have e8 : evE (Cn pg (n + 1 + 1 + 1 + 1)) (.meth (.var 1) "append" (.cons (.tup (.cons (.var 5) (.cons (.var 3) .nil))) .nil)) ρ2 M5 = .ok .non (M5.set 0 (.lst ((ts ++ [t]).map TT.w))) := by
  have hk2 : (ts.map TT.w).length < lim := by simp [lim]; omega
  have hk3 : [tab ks ss ls R L, told ks ss ls R L].length ≤ lim := by simp [lim]
  simp only [ρ2, E_var, E_cst, E_bin, E_not, E_and, E_cmp, E_chain, E_ife, E_tup, E_lst, E_idx, E_slc, E_callN, E_blt, E_isI, E_meth, E_fldN, E_make, E_mthN, E_set0, Es_nil, Es_cons, O_none, O_some, B_ok, List.getElem?_cons_zero, List.getElem?_cons_succ, List.set_cons_zero, List.set_cons_succ, kdOf, h5, kA, if_true, hk3, methop, lstop, opAppend, hk2, List.map_append]
  rfl
 refine ⟨t, M5.set 0 (.lst ((ts ++ [t]).map TT.w)), some (.ref (m.length + 5 + R.length)), cm5.set (bels_pure _ (pureM TT.pure _)), List.getElem?_set_self (List.getElem?_eq_some_iff.mp h5).1, ?_⟩
 have eT : evE (Cn pg (n + 1 + 1 + 1 + 1)) (.call 21 (.cons (.var 3) .nil)) [some (.fz (ns.map .int)), some (.ref 0), some (.int k), some (told ks ss ls R L), o4, o5] m = .ok (.ref (m.length + 5 + R.length)) M1 := by simp only [E_var, E_cst, E_bin, E_not, E_and, E_cmp, E_chain, E_ife, E_tup, E_lst, E_idx, E_slc, E_callN, E_blt, E_isI, E_meth, E_fldN, E_make, E_mthN, E_set0, Es_nil, Es_cons, O_none, O_some, B_ok, List.getElem?_cons_zero, List.getElem?_cons_succ, List.set_cons_zero, List.set_cons_succ, e2]
 have eS : evE (Cn pg (n + 1 + 1 + 1 + 1)) (.call 25 (.cons (.var 4) .nil)) ρ2 M1 = .ok .non M2 := by simp only [ρ2, E_var, E_cst, E_bin, E_not, E_and, E_cmp, E_chain, E_ife, E_tup, E_lst, E_idx, E_slc, E_callN, E_blt, E_isI, E_meth, E_fldN, E_make, E_mthN, E_set0, Es_nil, Es_cons, O_none, O_some, B_ok, List.getElem?_cons_zero, List.getElem?_cons_succ, List.set_cons_zero, List.set_cons_succ, M1, e4]; rfl
 rw [b26_1, seq_nx (ρ1 := [some (.fz (ns.map .int)), some (.ref 0), some (.int k), some (told ks ss ls R L), o4, o5]) (asg_to hT rfl), seq_nx (ρ1 := ρ1) (asg_to eT rfl), seq_nx (ρ1 := ρ2) (asg_to e3 rfl), seq_nx (ρ1 := ρ2) (by rw [if_f t1, ss_nil']), seq_nx (expr_ok eS), seq_nx (expr_ok e5), seq_nx (expr_ok e6), seq_nx (expr_ok e7), seq_nx (expr_ok e8), ss_nil']
theorem law_all {n : Nat} {ns : List Int} (hn : ns.length ≤ 63) : ∃ m', D.runN pg (n + 1 + 1 + 1 + 1 + 1) 26 [.fz (ns.map .int)] [] = .ok (.bl true) m' := by
 obtain ⟨size, hsz, hs⟩ : ∃ size : Nat, (if (if (3 : Int) < ns.length then (3 : Int) else ns.length) > 1 then (if (3 : Int) < ns.length then (3 : Int) else ns.length) else 1) = (size : Int) ∧ size ≤ 3 := by
  refine ⟨(if (if (3 : Int) < ns.length then (3 : Int) else ns.length) > 1 then (if (3 : Int) < ns.length then (3 : Int) else ns.length) else 1).toNat, ?_, ?_⟩ <;> (split <;> (try split) <;> omega)
 have hI : evI (Cn pg (n + 1 + 1 + 1 + 1)) (.rng (.blt .max (.cons (.cst (.int 1)) (.cons (.blt .min (.cons (.blt .len (.cons (.var 0) .nil)) (.cons (.cst (.int 3)) .nil))) .nil)))) [some (.fz (ns.map .int)), some (.ref 0), none, none, none, none] [.lst []] = .ok (.rng 0 size) [.lst []] := by
  refine rngI ?_ (by omega)
  have l1 : bltop .len [.fz (ns.map .int)] [.lst []] = .ok (.int ns.length) [.lst []] := by rw [len_of (xs := ns.map .int) rfl, List.length_map]
  have mn : ∀ a b M, bltop .min [.int a, .int b] M = .ok (.int (if b < a then b else a)) M := fun _ _ _ => rfl
  have mx : ∀ a b M, bltop .max [.int a, .int b] M = .ok (.int (if b > a then b else a)) M := fun _ _ _ => rfl
  simp only [E_var, E_cst, E_bin, E_not, E_and, E_cmp, E_chain, E_ife, E_tup, E_lst, E_idx, E_slc, E_callN, E_blt, E_isI, E_meth, E_fldN, E_make, E_mthN, E_set0, Es_nil, Es_cons, O_none, O_some, B_ok, List.getElem?_cons_zero, List.getElem?_cons_succ, List.set_cons_zero, List.set_cons_succ, l1, mn, mx, hsz]
 obtain ⟨ρ', m', hf, ts, hm', h0, hl, o2, o3, o4, o5, rfl⟩ := for_inv (t := .var 2) (b := b26_1) (n := size) hI rfl
  (fun i ρ m => ∃ ts : List TT, Cm m ∧ m[0]? = some (.lst (ts.map TT.w)) ∧ ts.length = i ∧ ∃ o2 o3 o4 o5, ρ = [some (.fz (ns.map .int)), some (.ref 0), o2, o3, o4, o5]) ⟨[], rfl, rfl, rfl, _, _, _, _, rfl⟩ (fun i ρ m hi => by
   rintro ⟨ts, hm, h0, hl, o2, o3, o4, o5, rfl⟩
   obtain ⟨t, m', o4', c1, c2, c3⟩ := turn (n := n) (k := i) (ns := ns) (o3 := o3) (o4 := o4) (o5 := o5) (by omega) hm h0 (by omega)
   exact ⟨.int i, [some (.fz (ns.map .int)), some (.ref 0), some (.int i), o3, o4, o5], _, m', by rw [get_rng_it hi]; simp, by simp [bindT], .inl c3, ts ++ [t], c1, c2, by simp [hl], _, _, _, _, rfl⟩)
  (fun ρ m _ => get_rng_fin (by omega))
 refine ⟨m', run_rt (d := ⟨1, 6, b26⟩) rfl rfl ?_⟩
 show evSs _ b26 [some (.fz (ns.map .int)), none, none, none, none, none] [] = _
 have hall : evE (Cn pg (n + 1 + 1 + 1 + 1)) (.blt .all (.cons (.frz (.comp (.gen (.tup (.cons (.var 5) (.cons (.var 3) .nil))) [3, 5] (.var 1) .nil (.elt (.call 23 (.cons (.var 5) (.cons (.var 3) .nil))))))) .nil)) [some (.fz (ns.map .int)), some (.ref 0), o2, o3, o4, o5] m' = .ok (.bl true) m' := by
  have hI2 : evI (Cn pg (n + 1 + 1 + 1 + 1)) (.var 1) [some (.fz (ns.map .int)), some (.ref 0), o2, o3, o4, o5] m' = .ok (.lst 0) m' := by simp only [I_var, E_var, E_cst, E_bin, E_not, E_and, E_cmp, E_chain, E_ife, E_tup, E_lst, E_idx, E_slc, E_callN, E_blt, E_isI, E_meth, E_fldN, E_make, E_mthN, E_set0, Es_nil, Es_cons, O_none, O_some, B_ok, List.getElem?_cons_zero, List.getElem?_cons_succ, List.set_cons_zero, List.set_cons_succ, toI, srcT, srcOf, getL, h0]
  obtain ⟨ρ1, hc⟩ := comp_fm (C := Cn pg (n + 1 + 1 + 1 + 1)) (get := Src.get (.lst 0)) (t := .tup (.cons (.var 5) (.cons (.var 3) .nil))) (ifs := .nil) (e := .call 23 (.cons (.var 5) (.cons (.var 3) .nil))) (ρ := clr [3, 5] [some (.fz (ns.map .int)), some (.ref 0), o2, o3, o4, o5]) (m := m') (xs := ts.map TT.w) (B := fun x => match x with | .tup [a, b] => [some (.fz (ns.map .int)), some (.ref 0), o2, some b, o4, some a] | _ => []) (p := fun _ => true) (g := fun _ => .bl true)
   (fun j hj => by rw [get_lst h0, get_tup_it hj]) (by rw [get_lst h0]; exact get_tup_fin (by omega)) (fun x hx => by obtain ⟨t, _, rfl⟩ := List.mem_map.mp hx; simp [TT.w, clr, bindT, bindTs]) (fun x hx y hy => by obtain ⟨t, _, rfl⟩ := List.mem_map.mp hx; obtain ⟨u, _, rfl⟩ := List.mem_map.mp hy; simp [TT.w, bindT, bindTs]) (fun x _ => by simp only [sIfs_nil, sIfs_cons])
   (fun x hx _ => by
    obtain ⟨t, _, rfl⟩ := List.mem_map.mp hx
    have ag : callP (D.runN pg (n + 1 + 1 + 1 + 1) 23) [tab t.ks t.ss t.ls t.R t.L, told t.ks t.ss t.ls t.R t.L] m' = .ok (.bl true) m' := agrees t.ok
    simp only [TT.w, E_var, E_cst, E_bin, E_not, E_and, E_cmp, E_chain, E_ife, E_tup, E_lst, E_idx, E_slc, E_callN, E_blt, E_isI, E_meth, E_fldN, E_make, E_mthN, E_set0, Es_nil, Es_cons, O_none, O_some, B_ok, List.getElem?_cons_zero, List.getElem?_cons_succ, List.set_cons_zero, List.set_cons_succ, ag]) (by simp [lim]; omega)
  rw [filterT, map_rep] at hc
  have hlen : (Src.lst 0).len m' = (ts.map TT.w).length := by simp only [Src.len, getL, h0]
  have hf := frz_new (comp_ok (js := [3, 5]) (ifs := .nil) (g := .elt (.call 23 (.cons (.var 5) (.cons (.var 3) .nil)))) hI2 (by rw [hlen]; exact hc)) rfl hm' (pureWs_all.mpr fun x hx => by rw [(List.mem_replicate.mp hx).2]; rfl)
  rw [E_blt, Es_cons, hf]
  simp only [B_ok, Es_nil, bltop, getL, bools_true, all_true]
 rw [b26, seq_nx (ρ1 := [some (.fz (ns.map .int)), some (.ref 0), none, none, none, none]) (m1 := [.lst []]) (asg_to (w := .ref 0) (by simp only [E_var, E_cst, E_bin, E_not, E_and, E_cmp, E_chain, E_ife, E_tup, E_lst, E_idx, E_slc, E_callN, E_blt, E_isI, E_meth, E_fldN, E_make, E_mthN, E_set0, Es_nil, Es_cons, O_none, O_some, B_ok, List.length_nil, new]; rw [if_pos (Nat.zero_le _)]; rfl) rfl), seq_nx hf, seq_rt (ret_ok hall)]
theorem law_holds : ∀ ns : List Int, ns.length ≤ 63 → ∃ m', D.runN pg 40 26 [.fz (ns.map .int)] [] = .ok (.bl true) m' := fun ns hn => law_all (n := 35) hn
end My
end
section
set_option Elab.async false
set_option linter.all false
open PySem PySem.W PyProof.Rows
set_option maxRecDepth 100000 in
set_option maxHeartbeats 0 in
theorem PySem.Challenge.cw_relayholds_k51_tables_told_holds : PySem.Challenge.rw_relayholds_k51_tables_told.Holds := by
 w_on; o_law; k_head; (case hw => w_witness2)
 k_fill
 refine D.law_walk (l := PySem.Challenge.rw_relayholds_k51_tables_told) (p := My.pg) (i := 26) (x := "_law_script") rfl rfl (fun w h Y => PySem.W.kIn_of Y) ?F My.law_holds
 case F =>
  intro w mg fa h KX G hmg
  refine' My.all_mk KX G hmg ?aC_Table ?a0 ?l0 ?c0 ?k0 ?a1 ?l1 ?c1 ?k1 ?a2 ?i2 ?l2 ?c2 ?k2 ?a3 ?i3 ?l3 ?c3 ?k3 ?a4 ?i4 ?l4 ?c4 ?k4 ?a5 ?i5 ?l5 ?c5 ?k5 ?a6 ?i6 ?l6 ?c6 ?k6 ?a7 ?i7 ?l7 ?c7 ?k7 ?a8 ?i8 ?l8 ?c8 ?k8 ?a9 ?l9 ?c9 ?k9 ?a10 ?l10 ?c10 ?k10 ?a11 ?l11 ?c11 ?k11 ?a12 ?l12 ?c12 ?k12 ?a13 ?l13 ?c13 ?k13 ?a14 ?l14 ?c14 ?k14 ?a15 ?l15 ?c15 ?k15 ?a16 ?l16 ?c16 ?k16 ?a17 ?l17 ?c17 ?k17 ?a18 ?l18 ?c18 ?k18 ?a19 ?l19 ?c19 ?k19 ?a20 ?l20 ?c20 ?k20 ?a21 ?l21 ?c21 ?k21 ?a22 ?l22 ?c22 ?k22 ?a23 ?l23 ?c23 ?k23 ?a24 ?l24 ?c24 ?k24 ?a25 ?l25 ?c25 ?k25 ?a26 ?l26 ?c26 ?k26 ?pg_Table ?hd_Table ?po_Table ?sa_Table ?mk_Table ?kc_Table ?n0_Table ?n1_Table ?n2_Table ?n3_Table ?n4_Table ?y0 ?y1 ?y2 ?y3 ?y4 ?z_len ?z_abs ?z_max ?z_min ?z_divmod ?z_all ?z_any ?z_list ?z_tuple ?z_int ?z_bool ?z_str ?z_dict ?z_isinstance ?z_range ?z_enumerate ?z_zip ?z_sorted ?z_set
  (case aC_Table => k_is)
  (case a0 => k_is)
  (case l0 => k_is)
  (case c0 => k_is)
  (case k0 => k_is)
  (case a1 => k_is)
  (case l1 => k_is)
  (case c1 => k_is)
  (case k1 => k_is)
  (case a2 => k_is)
  (case i2 => k_is)
  (case l2 => k_is)
  (case c2 => k_is)
  (case k2 => k_is)
  (case a3 => k_is)
  (case i3 => k_is)
  (case l3 => k_is)
  (case c3 => k_is)
  (case k3 => k_is)
  (case a4 => k_is)
  (case i4 => k_is)
  (case l4 => k_is)
  (case c4 => k_is)
  (case k4 => k_is)
  (case a5 => k_is)
  (case i5 => k_is)
  (case l5 => k_is)
  (case c5 => k_is)
  (case k5 => k_is)
  (case a6 => k_is)
  (case i6 => k_is)
  (case l6 => k_is)
  (case c6 => k_is)
  (case k6 => k_is)
  (case a7 => k_is)
  (case i7 => k_is)
  (case l7 => k_is)
  (case c7 => k_is)
  (case k7 => k_is)
  (case a8 => k_is)
  (case i8 => k_is)
  (case l8 => k_is)
  (case c8 => k_is)
  (case k8 => k_is)
  (case a9 => k_is)
  (case l9 => k_is)
  (case c9 => k_is)
  (case k9 => k_is)
  (case a10 => k_is)
  (case l10 => k_is)
  (case c10 => k_is)
  (case k10 => k_is)
  (case a11 => k_is)
  (case l11 => k_is)
  (case c11 => k_is)
  (case k11 => k_is)
  (case a12 => k_is)
  (case l12 => k_is)
  (case c12 => k_is)
  (case k12 => k_is)
  (case a13 => k_is)
  (case l13 => k_is)
  (case c13 => k_is)
  (case k13 => k_is)
  (case a14 => k_is)
  (case l14 => k_is)
  (case c14 => k_is)
  (case k14 => k_is)
  (case a15 => k_is)
  (case l15 => k_is)
  (case c15 => k_is)
  (case k15 => k_is)
  (case a16 => k_is)
  (case l16 => k_is)
  (case c16 => k_is)
  (case k16 => k_is)
  (case a17 => k_is)
  (case l17 => k_is)
  (case c17 => k_is)
  (case k17 => k_is)
  (case a18 => k_is)
  (case l18 => k_is)
  (case c18 => k_is)
  (case k18 => k_is)
  (case a19 => k_is)
  (case l19 => k_is)
  (case c19 => k_is)
  (case k19 => k_is)
  (case a20 => k_is)
  (case l20 => k_is)
  (case c20 => k_is)
  (case k20 => k_is)
  (case a21 => k_is)
  (case l21 => k_is)
  (case c21 => k_is)
  (case k21 => k_is)
  (case a22 => k_is)
  (case l22 => k_is)
  (case c22 => k_is)
  (case k22 => k_is)
  (case a23 => k_is)
  (case l23 => k_is)
  (case c23 => k_is)
  (case k23 => k_is)
  (case a24 => k_is)
  (case l24 => k_is)
  (case c24 => k_is)
  (case k24 => k_is)
  (case a25 => k_is)
  (case l25 => k_is)
  (case c25 => k_is)
  (case k25 => k_is)
  (case a26 => k_is)
  (case l26 => k_is)
  (case c26 => k_is)
  (case k26 => k_is)
  (case pg_Table => k_is)
  (case hd_Table => k_is)
  (case po_Table => k_is)
  (case sa_Table => k_is)
  (case mk_Table => k_is)
  (case kc_Table => k_is)
  (case n0_Table => k_is)
  (case n1_Table => k_is)
  (case n2_Table => k_is)
  (case n3_Table => k_is)
  (case n4_Table => k_is)
  (case y0 => k_is)
  (case y1 => k_is)
  (case y2 => k_is)
  (case y3 => k_is)
  (case y4 => k_is)
  (case z_len => k_is)
  (case z_abs => k_is)
  (case z_max => k_is)
  (case z_min => k_is)
  (case z_divmod => k_is)
  (case z_all => k_is)
  (case z_any => k_is)
  (case z_list => k_is)
  (case z_tuple => k_is)
  (case z_int => k_is)
  (case z_bool => k_is)
  (case z_str => k_is)
  (case z_dict => k_is)
  (case z_isinstance => k_is)
  (case z_range => k_is)
  (case z_enumerate => k_is)
  (case z_zip => k_is)
  (case z_sorted => k_is)
  (case z_set => k_is)
end
end
