import PyProof.Rows.All
import Wide.All
import OpenK.AllK
import Wide.FinOn
import Lean
import PyProof.EqAt
import PyProof.EqKinds
import PyProof.TupleCall
import PySem.Challenge.RW_relayholds_k62_parted
section
set_option Elab.async false
set_option linter.all false
set_option maxRecDepth 100000
namespace L2
open PySem PySem.Spec PyProof.Rows
abbrev Key := Sum Int Str
def keyIs : Key → Value → Bool
  | .inl k, v => Value.isInt k v
  | .inr x, v => Value.isStrOf x v
def keyH (w : World) : Key → Int
  | .inl k => hashInt k
  | .inr x => hashStr w x
theorem keyIs_shape : ∀ {k : Key} {v : Value}, keyIs k v = true → (∃ i t, k = Sum.inl i ∧ v = Value.int i t) ∨ (∃ x t, k = Sum.inr x ∧ v = Value.str x t)
  | .inl i, v, h => by
    obtain ⟨t, e⟩ := Value.isInt_shape (k := i) (v := v) h
    exact .inl ⟨i, t, rfl, e⟩
  | .inr x, v, h => by
    obtain ⟨t, e⟩ := Value.isStrOf_shape (x := x) (v := v) h
    exact .inr ⟨x, t, rfl, e⟩
theorem keyIs_int (i : Int) (t : Tok) : keyIs (.inl i) (.int i t) = true := by simp [keyIs, Value.isInt]
theorem keyIs_str (x : Str) (t : Tok) : keyIs (.inr x) (.str x t) = true := by simp [keyIs, Value.isStrOf]
theorem key_ll (a b : Int) : decide ((Sum.inl a : Key) = Sum.inl b) = (a == b) := by
  by_cases e : a = b
  · subst e; simp
  · have h : ¬ (Sum.inl a : Key) = Sum.inl b := fun q => e (Sum.inl.inj q)
    rw [decide_eq_false h]
    exact (beq_eq_false_iff_ne.mpr e).symm
theorem key_rr (a b : Str) : decide ((Sum.inr a : Key) = Sum.inr b) = decide (a = b) := by
  by_cases e : a = b
  · subst e; simp
  · have h : ¬ (Sum.inr a : Key) = Sum.inr b := fun q => e (Sum.inr.inj q)
    rw [decide_eq_false h, decide_eq_false e]
theorem key_lr (a : Int) (b : Str) : decide ((Sum.inl a : Key) = Sum.inr b) = false := decide_eq_false (fun q => nomatch q)
theorem key_rl (a : Str) (b : Int) : decide ((Sum.inr a : Key) = Sum.inl b) = false := decide_eq_false (fun q => nomatch q)
def mixKind (prog : Program) (w : World) : PySem.KeyKind prog w Key where
  is := keyIs
  hash := keyH w
  inj := fun v a b ha hb => by
    rcases keyIs_shape ha with ⟨i, t, rfl, rfl⟩ | ⟨x, t, rfl, rfl⟩
    · rcases keyIs_shape hb with ⟨j, u, rfl, e⟩ | ⟨y, u, rfl, e⟩
      · injection e with e1 _; rw [e1]
      · exact nomatch e
    · rcases keyIs_shape hb with ⟨j, u, rfl, e⟩ | ⟨y, u, rfl, e⟩
      · exact nomatch e
      · injection e with e1 _; rw [e1]
  byValue := fun k v h => by
    rcases keyIs_shape h with ⟨i, t, rfl, rfl⟩ | ⟨x, t, rfl, rfl⟩ <;> rfl
  pyHash := fun hv h => by
    rcases keyIs_shape hv with ⟨i, t, rfl, rfl⟩ | ⟨x, t, rfl, rfl⟩
    · exact wpAny_pyHash_int h
    · exact wpAny_pyHash_str h
  eqBool := fun hu hv h => by
    rcases keyIs_shape hu with ⟨i, t, rfl, rfl⟩ | ⟨x, t, rfl, rfl⟩
    · rcases keyIs_shape hv with ⟨j, u, rfl, rfl⟩ | ⟨y, u, rfl, rfl⟩
      · rw [key_ll] at h; exact wpAny_eqBool_int h
      · rw [key_lr] at h; exact SeqAt.EqAt.int_str i t y u _ _ _ _ h
    · rcases keyIs_shape hv with ⟨j, u, rfl, rfl⟩ | ⟨y, u, rfl, rfl⟩
      · rw [key_rl] at h; exact SeqAt.EqAt.str_int x t j u _ _ _ _ h
      · rw [key_rr] at h; exact wpAny_eqBool_str h
  «strs» := fun k x t v h => by
    rcases keyIs_shape h with ⟨i, u, rfl, e⟩ | ⟨y, u, rfl, e⟩
    · exact nomatch e
    · injection e with e1 _
      subst e1
      cases v <;> rfl
theorem mixKind_is (prog : Program) (w : World) (k : Key) (v : Value) : (mixKind prog w).is k v = keyIs k v := rfl
theorem mixKind_int (prog : Program) (w : World) (i : Int) (t : Tok) : (mixKind prog w).is (.inl i) (.int i t) = true := keyIs_int i t
theorem mixKind_str (prog : Program) (w : World) (x : Str) (t : Tok) : (mixKind prog w).is (.inr x) (.str x t) = true := keyIs_str x t
end L2
namespace L2
open PySem PySem.Spec PyProof.Rows
inductive V where
  | non | bl (b : Bool) | int (i : Int) | str (x : Str) | byt (b : Array UInt8) | flt (b : UInt64) | ref (a : Addr) | ty (n : String)
  deriving DecidableEq
def RelV : V → Value → Prop
  | .non, u => u = Value.none
  | .bl b, u => u = Value.bool b
  | .int i, u => ∃ t, u = Value.int i t
  | .str x, u => ∃ t, u = Value.str x t
  | .byt b, u => ∃ t, u = Value.bytes b t
  | .flt b, u => ∃ t, u = Value.float b t
  | .ref a, u => u = Value.ref a
  | .ty n, u => u = Value.type n
abbrev Vals : List V → List Value → Prop := Paired RelV
theorem Vals.length {xs : List V} {us : List Value} (r : Vals xs us) : xs.length = us.length := Paired.length r
theorem Vals.get : ∀ {xs : List V} {us : List Value} {i : Nat} {x : V}, Vals xs us → xs[i]? = some x → ∃ u, us[i]? = some u ∧ RelV x u
  | _, _, _, _, .nil, e => by simp at e
  | _, _, 0, _, .cons r _, e => by simp at e; subst e; exact ⟨_, rfl, r⟩
  | _, _, i + 1, x, .cons _ t, e => by
    obtain ⟨u, h1, h2⟩ := Vals.get (i := i) (x := x) t (by simpa using e)
    exact ⟨u, by simpa using h1, h2⟩
theorem Vals.set {x : V} {u : Value} (r : RelV x u) : ∀ {xs : List V} {us : List Value} (i : Nat), Vals xs us → Vals (xs.set i x) (us.set i u)
  | _, _, _, .nil => .nil
  | _, _, 0, .cons _ t => .cons r t
  | _, _, i + 1, .cons q t => .cons q (Vals.set r i t)
theorem Vals.append : ∀ {xs ys : List V} {us ws : List Value}, Vals xs us → Vals ys ws → Vals (xs ++ ys) (us ++ ws)
  | _, _, _, _, .nil, s => s
  | _, _, _, _, .cons r t, s => .cons r (Vals.append t s)
theorem Vals.take : ∀ {xs : List V} {us : List Value} (n : Nat), Vals xs us → Vals (xs.take n) (us.take n)
  | _, _, 0, _ => .nil
  | _, _, _ + 1, .nil => .nil
  | _, _, n + 1, .cons r t => .cons r (Vals.take n t)
theorem Vals.drop : ∀ {xs : List V} {us : List Value} (n : Nat), Vals xs us → Vals (xs.drop n) (us.drop n)
  | _, _, 0, r => r
  | _, _, _ + 1, .nil => .nil
  | _, _, n + 1, .cons _ t => Vals.drop n t
theorem Vals.none_of : ∀ {xs : List V} {us : List Value} {i : Nat}, Vals xs us → xs[i]? = none → us[i]? = none := fun {xs us i} r e => by
  have h1 := r.length
  have h2 : xs.length ≤ i := List.getElem?_eq_none_iff.mp e
  exact List.getElem?_eq_none_iff.mpr (by omega)
def RelO : Option V → Option Value → Prop
  | some v, some u => RelV v u
  | none, none => True
  | _, _ => False
def KV {κ : Type} : List (κ × V) → List (κ × Value) → Prop := Paired fun (p : κ × V) (q : κ × Value) => p.1 = q.1 ∧ RelV p.2 q.2
def kV : Key → V
  | .inl i => .int i
  | .inr x => .str x
inductive HO where
  | lst (xs : List V)
  | tup (xs : List V)
  | dK (kvs : List (Key × V)) | dT (kvs : List (List Key × V))
  | set (S : Int → Bool) (n : Nat)
  | ins (C dx : Addr) (fs : List (Str × V))
  | own (x : Addr)
  | xd (fs : List (Str × V))
  | met (f x : Addr)
  | rng (lo hi : Int)
  | frz (o : Obj) (u : HO)
  | tbl (ps : Array Value)
  | ext (φ : Heap → Prop)
abbrev Hp := Addr → Option HO
def upd (H : Hp) (a : Addr) (o : HO) : Hp := fun b => if b = a then some o else H b
theorem upd_same {H : Hp} {a : Addr} {o : HO} : upd H a o a = some o := by unfold upd; rw [if_pos rfl]
theorem upd_ne {H : Hp} {a b : Addr} {o : HO} (h : b ≠ a) : upd H a o b = H b := by unfold upd; rw [if_neg h]
theorem upd_upd {H : Hp} {a : Addr} {o u : HO} : upd (upd H a o) a u = upd H a u := by
  funext b; unfold upd; split <;> rfl
theorem ne_of {H : Hp} {a b : Addr} {o u : HO} (h : H a = some o) (h' : H b = some u) (d : o ≠ u) : a ≠ b := by
  intro e; subst e; rw [h] at h'; exact d (Option.some.inj h')
theorem ne_of_none {H : Hp} {a b : Addr} {o : HO} (h : H a = some o) (h' : H b = none) : a ≠ b := by
  intro e; subst e; rw [h] at h'; cases h'
section
variable (P : Program) (w : World)
def ObjOk (H : Hp) (h : Heap) (a : Addr) : HO → Prop
  | .lst xs => xs.length ≤ sizeLine ∧ ∃ (its : List Value) (n : Nat), Vals xs its ∧ h.get? a = some { cls := .type "list", data := .seq its.toArray n }
  | .tup xs => xs.length ≤ sizeLine ∧ ∃ its : List Value, Vals xs its ∧ IsTup h a its.toArray
  | .dK kvs => kvs.length ≤ sizeLine ∧ (a == sysModules) = false ∧ ∃ vs, KV kvs vs ∧ h.DictOf (mixKind P w) a vs
  | .dT kvs => kvs.length ≤ sizeLine ∧ (a == sysModules) = false ∧ ∃ xs : List (List Key × Addr × Value),
      Paired (fun (p : List Key × V) (q : List Key × Addr × Value) => p.1 = q.1 ∧ H q.2.1 = some (.tup (p.1.map kV)) ∧ RelV p.2 q.2.2) kvs xs ∧
      ∃ o es ep, h.get? a = some o ∧ o.ExactDict ∧ o.data = .dict es ep ∧ es.toList = xs.map (entryOfKey (tupleKind (mixKind P w))) ∧ (xs.map (·.1)).Nodup
  | .set S n => h.SetOf (intKind P w) a S n
  | .ins C dx fs => H dx = some (.own a) ∧ fs.length ≤ 1000 ∧ dx ≠ a ∧ h.get? a = some (PySem.W.instObj C dx) ∧
      ∃ mA, h.Ns1 dx mA ∧ (∀ f, RelO (fs.lookup f) (mA f)) ∧ PySem.Within mA (fs.map (·.1))
  | .own _ => ∃ o, h.get? a = some o
  | .xd fs => ∃ mA, h.Ns1 a mA ∧ ∀ f, RelO (fs.lookup f) (mA f)
  | .rng lo hi => ∃ t u v, h.get? a = some { cls := .type "range", data := .fields #[.int lo t, .int hi u, .int 1 v] }
  | .frz o u => h.get? a = some o ∧ ObjOk H h a u
  | .tbl ps => h.get? a = some { cls := .none, data := .fields ps }
  | .met f x => h.get? a = some (PySem.W.methodObj (.ref f) (.ref x))
  | .ext φ => φ h ∧ (∃ o, h.get? a = some o) ∧ ∀ h1 h2 : Heap, φ h1 → (∀ o, h1.get? a = some o → h2.get? a = some o) → φ h2
def HOk (H : Hp) (h : Heap) : Prop := ∀ a o, H a = some o → ObjOk P w H h a o
end
section
variable {P : Program} {w : World} {H H' : Hp} {h h' : Heap} {a : Addr} {o : HO}
theorem ObjOk.lt (x : ObjOk P w H h a o) : a < h.objs.size := by
  cases o with
  | lst xs => obtain ⟨_, _, _, _, e⟩ := x; exact Heap.lt_size e
  | tup xs => obtain ⟨_, _, _, p⟩ := x; exact p.lt
  | dK kvs => obtain ⟨_, _, _, _, o, _, _, e, _⟩ := x; exact Heap.lt_size e
  | dT kvs => obtain ⟨_, _, _, _, o, _, _, e, _⟩ := x; exact Heap.lt_size e
  | set S n => obtain ⟨o, _, _, _, e, _⟩ := x; exact Heap.lt_size e
  | ins C dx fs => obtain ⟨_, _, _, e, _⟩ := x; exact Heap.lt_size e
  | own y => obtain ⟨_, e⟩ := x; exact Heap.lt_size e
  | xd fs => obtain ⟨_, ⟨_, _, _, e, _⟩, _⟩ := x; exact Heap.lt_size e
  | rng lo hi => obtain ⟨_, _, _, e⟩ := x; exact Heap.lt_size e
  | frz ob u => obtain ⟨e, _⟩ := x; exact Heap.lt_size e
  | tbl ps => exact Heap.lt_size (show h.get? a = some _ from x)
  | met f y => exact Heap.lt_size (show h.get? a = some _ from x)
  | ext φ => obtain ⟨_, ⟨_, e⟩, _⟩ := x; exact Heap.lt_size e
theorem Paired.mapP {α β : Type} {F G : α → β → Prop} : ∀ {l₁ : List α} {l₂ : List β}, Paired F l₁ l₂ → (∀ a b, F a b → G a b) → Paired G l₁ l₂
  | _, _, .nil, _ => .nil
  | _, _, .cons r t, f => .cons (f _ _ r) (Paired.mapP t f)
theorem Paired.imp' {α β : Type} {F G : α → β → Prop} (f : ∀ a b, F a b → G a b) {l₁ : List α} {l₂ : List β} (r : Paired F l₁ l₂) : Paired G l₁ l₂ := Paired.mapP r f
theorem ObjOk.stay (x : ObjOk P w H h a o) (k : ∀ b u, (b = a ∨ H b = some (.own a)) → h.get? b = some u → h'.get? b = some u)
    (ho : ∀ b, H b = some (.own a) → H' b = some (.own a)) (ht : ∀ b xs, H b = some (.tup xs) → H' b = some (.tup xs)) : ObjOk P w H' h' a o := by
  induction o with
  | lst xs => obtain ⟨z, its, n, r, e⟩ := x; exact ⟨z, its, n, r, k _ _ (.inl rfl) e⟩
  | tup xs => obtain ⟨z, its, r, ob, e, c⟩ := x; exact ⟨z, its, r, ob, k _ _ (.inl rfl) e, c⟩
  | dK kvs => obtain ⟨z, y, vs, r, ob, es, ep, e, c⟩ := x; exact ⟨z, y, vs, r, ob, es, ep, k _ _ (.inl rfl) e, c⟩
  | dT kvs =>
    obtain ⟨z, y, xs, r, ob, es, ep, e, c⟩ := x
    exact ⟨z, y, xs, Paired.mapP r fun p q z => ⟨z.1, ht _ _ z.2.1, z.2.2⟩, ob, es, ep, k _ _ (.inl rfl) e, c⟩
  | set S n => obtain ⟨ob, es, ep, t, e, c⟩ := x; exact ⟨ob, es, ep, t, k _ _ (.inl rfl) e, c⟩
  | ins C dx fs =>
    obtain ⟨d, z, ne, e, mA, ⟨od, es, ep, e2, c⟩, r⟩ := x
    exact ⟨ho _ d, z, ne, k _ _ (.inl rfl) e, mA, ⟨od, es, ep, k _ _ (.inr d) e2, c⟩, r⟩
  | own y => obtain ⟨ob, e⟩ := x; exact ⟨ob, k _ _ (.inl rfl) e⟩
  | xd fs => obtain ⟨mA, ⟨od, es, ep, e, c⟩, r⟩ := x; exact ⟨mA, ⟨od, es, ep, k _ _ (.inl rfl) e, c⟩, r⟩
  | rng lo hi => obtain ⟨t, u, v, e⟩ := x; exact ⟨t, u, v, k _ _ (.inl rfl) e⟩
  | frz ob u ih => obtain ⟨e, q⟩ := x; exact ⟨k _ _ (.inl rfl) e, ih q⟩
  | tbl ps =>
    have e : h.get? a = some { cls := .none, data := .fields ps } := x
    show h'.get? a = some { cls := .none, data := .fields ps }
    exact k a _ (.inl rfl) e
  | met f y =>
    have e : h.get? a = some (PySem.W.methodObj (.ref f) (.ref y)) := x
    show h'.get? a = some (PySem.W.methodObj (.ref f) (.ref y))
    exact k a _ (.inl rfl) e
  | ext φ => obtain ⟨p, ⟨o, e⟩, st⟩ := x; exact ⟨st _ _ p fun o q => k _ _ (.inl rfl) q, ⟨o, k _ _ (.inl rfl) e⟩, st⟩
theorem HOk.lt (x : HOk P w H h) (e : H a = some o) : a < h.objs.size := (x a o e).lt
theorem HOk.fresh (x : HOk P w H h) (e : h.objs.size ≤ a) : H a = none := by
  cases q : H a with
  | none => rfl
  | some u => exact absurd (Nat.lt_of_lt_of_le (x.lt q) e) (Nat.lt_irrefl _)
theorem HOk.kept (x : HOk P w H h) (k : ∀ b u, h.get? b = some u → h'.get? b = some u) : HOk P w H h' := fun a o e =>
  (x a o e).stay (fun b u _ q => k b u q) (fun _ q => q) fun _ _ q => q
theorem HOk.laid (x : HOk P w H h) (k : ∀ b u, h.get? b = some u → h'.get? b = some u) (hp : h.objs.size ≤ a) (new : ObjOk P w (upd H a o) h' a o) : HOk P w (upd H a o) h' := fun b u e => by
  have hn := x.fresh hp
  by_cases hb : b = a
  · subst hb; rw [upd_same] at e; cases e; exact new
  · rw [upd_ne hb] at e
    exact (x b u e).stay (fun c v _ q => k c v q) (fun c q => by rw [upd_ne (ne_of_none q hn)]; exact q) fun c xs q => by rw [upd_ne (ne_of_none q hn)]; exact q
end
def Rd (H : Hp) (a : Addr) (u : HO) : Prop := H a = some u ∨ ∃ o, H a = some (.frz o u)
theorem Rd.of {H : Hp} {a : Addr} {u : HO} (h : H a = some u) : Rd H a u := .inl h
theorem Rd.ok {P : Program} {w : World} {H : Hp} {h : Heap} {a : Addr} {u : HO} (r : Rd H a u) (x : HOk P w H h) : ObjOk P w H h a u := by
  rcases r with r | ⟨o, r⟩
  · exact x a u r
  · obtain ⟨_, q⟩ := x a _ r
    exact q
def Mut : Option HO → Prop
  | some (.lst _) => True
  | some (.dK _) => True
  | some (.dT _) => True
  | some (.set _ _) => True
  | some (.ins _ _ _) => True
  | some (.ext _) => True
  | _ => False
section
variable {P : Program} {w : World} {H : Hp} {h h' : Heap} {x e : Addr} {o' : HO}
theorem HOk.write (ok : HOk P w H h) (mu : Mut (H x)) (he : e = x ∨ H e = some (.own x)) (k : ∀ b u, b ≠ e → h.get? b = some u → h'.get? b = some u) (heo : ∃ u, h'.get? e = some u)
    (new : ObjOk P w (upd H x o') h' x o') : HOk P w (upd H x o') h' := fun b u q => by
  have nown : ∀ c y, H c = some (.own y) → c ≠ x := fun c y r z => by subst z; rw [r] at mu; exact mu
  have ntup : ∀ c xs, H c = some (.tup xs) → c ≠ x := fun c xs r z => by subst z; rw [r] at mu; exact mu
  by_cases hb : b = x
  · subst hb; rw [upd_same] at q; cases q; exact new
  · rw [upd_ne hb] at q
    by_cases hbe : b = e
    · have q' : H b = some (.own x) := by
        rcases he with z | z
        · exact absurd (hbe.trans z) hb
        · rw [hbe]; exact z
      rw [q] at q'; cases q'
      obtain ⟨v, hv⟩ := heo
      exact ⟨v, by rw [hbe]; exact hv⟩
    · refine (ok b u q).stay (fun c v hc r => k c v ?_ r) (fun c r => by rw [upd_ne (nown c b r)]; exact r) fun c xs r => by rw [upd_ne (ntup c xs r)]; exact r
      rcases hc with rfl | hc
      · exact hbe
      · rintro rfl
        rcases he with z | z
        · exact nown c b hc z
        · rw [hc] at z; cases z; exact hb rfl
end
structure Un (fs ex : List Addr) (H H' : Hp) (h h' : Heap) : Prop where
  keep : ∀ b o, h.get? b = some o → H b = none → b ∉ fs → b ∉ ex → h'.get? b = some o
  slot : ∀ b o, h.get? b = some o → H b = none → b ∈ fs → b ∉ ex → ∃ sl, h'.get? b = some { o with slots := sl }
  free : ∀ b o, h.get? b = some o → H b = none → b ∉ ex → H' b = none
  there : ∀ b o, h.get? b = some o → b ∉ ex → ∃ o', h'.get? b = some o'
  tups : ∀ b xs, H b = some (.tup xs) → H' b = some (.tup xs)
  frzs : ∀ b o u, H b = some (.frz o u) → H' b = some (.frz o u)
  tbls : ∀ b ps, H b = some (.tbl ps) → ∃ more, H' b = some (.tbl (ps ++ more))
section
variable {fs fs' ex ex' : List Addr} {H H1 H2 : Hp} {h h1 h2 h' : Heap} {a x e : Addr} {o : HO}
theorem Un.any (u : Un fs ex H H1 h h1) {b : Addr} {ob : Obj} (q : h.get? b = some ob) (n : H b = none) (hx : b ∉ ex) : ∃ sl, h1.get? b = some { ob with slots := sl } := by
  by_cases hb : b ∈ fs
  · exact u.slot b ob q n hb hx
  · exact ⟨ob.slots, u.keep b ob q n hb hx⟩
theorem Un.trans (a : Un fs ex H H1 h h1) (b : Un fs ex H1 H2 h1 h2) : Un fs ex H H2 h h2 where
  keep := fun c ob q n hc hx => b.keep c ob (a.keep c ob q n hc hx) (a.free c ob q n hx) hc hx
  slot := fun c ob q n hc hx => by
    obtain ⟨sl, e1⟩ := a.slot c ob q n hc hx
    obtain ⟨sl', e2⟩ := b.slot c _ e1 (a.free c ob q n hx) hc hx
    exact ⟨sl', e2⟩
  free := fun c ob q n hx => by
    obtain ⟨o', e1⟩ := a.there c ob q hx
    exact b.free c o' e1 (a.free c ob q n hx) hx
  there := fun c ob q hx => by
    obtain ⟨o', e1⟩ := a.there c ob q hx
    exact b.there c o' e1 hx
  tups := fun c xs q => b.tups c xs (a.tups c xs q)
  frzs := fun c ob xs q => b.frzs c ob xs (a.frzs c ob xs q)
  tbls := fun c ps q => by
    obtain ⟨m1, e1⟩ := a.tbls c ps q
    obtain ⟨m2, e2⟩ := b.tbls c _ e1
    exact ⟨m1 ++ m2, by rw [e2, Array.append_assoc]⟩
theorem Un.kept (k : ∀ b u, h.get? b = some u → h'.get? b = some u) : Un fs ex H H h h' :=
  ⟨fun b ob q _ _ _ => k b ob q, fun b ob q _ _ _ => ⟨ob.slots, k b ob q⟩, fun _ _ _ n _ => n, fun b ob q _ => ⟨ob, k b ob q⟩, fun _ _ q => q, fun _ _ _ q => q, fun _ ps q => ⟨#[], by rw [q]; simp⟩⟩
theorem Un.refl : Un fs ex H H h h := Un.kept fun _ _ q => q
theorem Un.laid (k : ∀ b u, h.get? b = some u → h'.get? b = some u) (hp : h.objs.size ≤ a) (hn : H a = none) : Un fs ex H (upd H a o) h h' where
  keep := fun b u q _ _ _ => k b u q
  slot := fun b u q _ _ _ => ⟨u.slots, k b u q⟩
  free := fun b u q n _ => by rw [upd_ne (Nat.ne_of_lt (Nat.lt_of_lt_of_le (Heap.lt_size q) hp))]; exact n
  there := fun b u q _ => ⟨u, k b u q⟩
  tups := fun b xs q => by rw [upd_ne (ne_of_none q hn)]; exact q
  frzs := fun b u xs q => by rw [upd_ne (ne_of_none q hn)]; exact q
  tbls := fun b ps q => ⟨#[], by rw [upd_ne (ne_of_none q hn), q]; simp⟩
theorem Un.write (mu : Mut (H x)) (he : e = x ∨ H e = some (.own x)) (k : ∀ b u, b ≠ e → h.get? b = some u → h'.get? b = some u) (heo : ∃ u, h'.get? e = some u) : Un fs ex H (upd H x o) h h' := by
  have hx : ∀ b, H b = none → b ≠ x := fun b n z => by subst z; rw [n] at mu; exact mu
  have hb : ∀ b, H b = none → b ≠ e := fun b n z => by
    subst z
    rcases he with r | r
    · exact hx b n r
    · rw [n] at r; cases r
  have hm : ∀ b u, H b = some u → ¬ Mut (some u) → b ≠ x := fun b u q nm z => by subst z; rw [q] at mu; exact nm mu
  refine ⟨fun b u q n _ _ => k b u (hb b n) q, fun b u q n _ _ => ⟨u.slots, k b u (hb b n) q⟩, fun b u q n _ => by rw [upd_ne (hx b n)]; exact n, fun b u q _ => ?_,
    fun b xs q => by rw [upd_ne (hm b _ q fun z => z)]; exact q, fun b u xs q => by rw [upd_ne (hm b _ q fun z => z)]; exact q, fun b ps q => ⟨#[], by rw [upd_ne (hm b _ q fun z => z), q]; simp⟩⟩
  by_cases hbe : b = e
  · subst hbe; exact heo
  · exact ⟨u, k b u hbe q⟩
theorem Un.mono (u : Un fs ex H H1 h h1) (hs : ∀ b ∈ fs, b ∈ fs') (hx : ∀ b ∈ ex, b ∈ ex') : Un fs' ex' H H1 h h1 :=
  ⟨fun b ob q n hb he => u.keep b ob q n (fun z => hb (hs b z)) fun z => he (hx b z), fun _ _ q n _ he => u.any q n fun z => he (hx _ z), fun b ob q n he => u.free b ob q n fun z => he (hx b z), fun b ob q he => u.there b ob q fun z => he (hx b z), u.tups, u.frzs, u.tbls⟩
end
def trk (h : Heap) (H : Hp) : List Addr := (List.range h.objs.size).filter fun a => (H a).isSome
def hidT (h : Heap) (H : Hp) : Heap := PySem.W.hideAll h (trk h H)
theorem hidT_size (h : Heap) (H : Hp) : (hidT h H).objs.size = h.objs.size := PySem.W.hideAll_size _ _
theorem hidT_get {h : Heap} {H : Hp} {b : Addr} {o : Obj} (e : h.get? b = some o) (n : H b = none) : (hidT h H).get? b = some o :=
  PySem.W.hideAll_get _ e fun hm => by
    have q : (H b).isSome = true := (List.mem_filter.mp hm).2
    rw [n] at q; simp at q
theorem of_hidT {h : Heap} {H : Hp} {b : Addr} {o : Obj} (e : (hidT h H).get? b = some o) : h.get? b = some o ∧ H b = none := by
  have e' : h.get? b = some o := PySem.W.of_hideAll (trk h H) e
  refine ⟨e', ?_⟩
  cases q : H b with
  | none => rfl
  | some x =>
    have hm : b ∈ trk h H := List.mem_filter.mpr ⟨List.mem_range.mpr (Heap.lt_size e'), by simp [q]⟩
    have z : (hidT h H).get? b = none := PySem.W.hideAll_none (trk h H) hm
    rw [z] at e; cases e
def allNews (g h : Heap) (L : Addr) : List (Addr × Obj) := (List.range h.objs.size).filterMap fun a => if a = L ∨ (g.get? a).isSome = true then none else (h.get? a).map fun o => (a, o)
theorem mem_allNews {g h : Heap} {L a : Addr} {o : Obj} (h1 : a ≠ L) (h2 : g.get? a = none) (h3 : h.get? a = some o) : (a, o) ∈ allNews g h L :=
  List.mem_filterMap.mpr ⟨a, List.mem_range.mpr (Heap.lt_size h3), by simp [h1, h2, h3]⟩
theorem of_mem_allNews {g h : Heap} {L : Addr} {p : Addr × Obj} (hp : p ∈ allNews g h L) : p.1 ≠ L ∧ g.get? p.1 = none ∧ h.get? p.1 = some p.2 := by
  obtain ⟨b, _, e⟩ := List.mem_filterMap.mp hp
  split at e
  · cases e
  · rename_i hn
    cases q : h.get? b with
    | none => rw [q] at e; simp at e
    | some u =>
      rw [q] at e
      simp only [Option.map_some, Option.some.injEq] at e
      subst e
      refine ⟨fun z => hn (.inl z), ?_, q⟩
      show g.get? b = none
      cases r : g.get? b with
      | none => rfl
      | some v => exact (hn (.inr (by simp [r]))).elim
def rest (g h : Heap) (L d : Addr) : List (Addr × Obj) := (allNews g h L).filter fun p => decide (p.1 ≠ d)
theorem rest_ne {g h : Heap} {L d : Addr} : ∀ p ∈ rest g h L d, p.1 ≠ d := fun p hp => of_decide_eq_true (List.mem_filter.mp hp).2
theorem mem_rest {g h : Heap} {L d a : Addr} {o : Obj} (h1 : a ≠ L) (h2 : g.get? a = none) (h3 : h.get? a = some o) (h4 : a ≠ d) : (a, o) ∈ rest g h L d :=
  List.mem_filter.mpr ⟨mem_allNews h1 h2 h3, decide_eq_true h4⟩
theorem news_all {g h : Heap} {L : Addr} : News g L h (allNews g h L) := fun p hp => let ⟨a, b, c⟩ := of_mem_allNews hp; ⟨c, a, b⟩
theorem news_at {g h : Heap} {L d : Addr} {o : Obj} (h1 : d ≠ L) (h2 : g.get? d = none) (h3 : h.get? d = some o) : News g L h ((d, o) :: rest g h L d) := fun p hp => by
  rcases List.mem_cons.mp hp with rfl | hp
  · exact ⟨h3, h1, h2⟩
  · exact news_all p (List.mem_filter.mp hp).1
theorem kept_of_news {g h h' : Heap} {L d : Addr} {m : Str → Option Value} (k : ∀ b o, g.get? b = some o → h.get? b = some o) (F : Fr g L h' m) (N : News g L h' (rest g h L d)) :
    ∀ b o, b ≠ L → b ≠ d → h.get? b = some o → h'.get? b = some o := fun b o h1 h2 e => by
  cases q : g.get? b with
  | some u =>
    have := k b u q
    rw [e] at this; cases this
    exact F.keep b _ q
  | none => exact (N (b, o) (mem_rest h1 q e h2)).1
end L2
namespace L2
open PySem PySem.Spec PyProof.Rows
structure Mod (K : PySem.W.Frag) (mg : Str → Option Value) (base : Heap) : Prop where
  kin : K.In base
  glob : base.Ns mainGlobals mg
  blt : ∃ mb, base.Ns builtinsNs mb ∧ ∀ x : Str, x ≠ "__name__" → mb x = bootBuiltins x
  nolimit : base.NoLimit
structure Cx where
  prog : Program
  w : World
  K : PySem.W.Frag
  mg : Str → Option Value
  base : Heap
  A : Around
  N : List Str
  s₀ : Shared
  H₀ : Hp
  env : Env
  outer : List Env
  stack : List Env
  ex : List Addr
  fn : Str → Bool
  calm : Bool
  pn : List (Addr × Obj)
  xe : Value → Shared → Prop
def frs (l : List Env) : List Addr := l.filterMap (·.frame)
abbrev Cx.fs (X : Cx) : List Addr := frs X.outer
def Vis (sc : Scope) (x : Str) : Prop := sc.names.lookup x = some .local ∨ sc.names.lookup x = some .cell ∨ sc.names.lookup x = some .free
def Loc (sc : Scope) (x : Str) : Prop := sc.names.lookup x = some .local ∨ sc.names.lookup x = some .cell
def Look (env : Env) (h : Heap) (m : Str → Option Value) (x : Str) (u : Value) : Prop :=
  (env.kindOf x = some .local ∧ m x = some u) ∨ ((env.kindOf x = some .cell ∨ env.kindOf x = some .free) ∧ ∃ c, env.cells.lookup x = some c ∧ h.IsCell c (some u))
structure Cx.Ok (X : Cx) : Prop where
  mod : Mod X.K X.mg X.base
  kind : X.env.scope.kind = .function
  glob : X.env.globals = mainGlobals
  blt : X.env.builtins = builtinsNs
  above : X.s₀.heap.objs.size ≤ X.env.locals
  inj : ∀ x y c, X.env.cells.lookup x = some c → X.env.cells.lookup y = some c → x = y
  has : ∀ x, (X.env.kindOf x = some .cell ∨ X.env.kindOf x = some .free) → ∃ c, X.env.cells.lookup x = some c
  cab : ∀ x c, X.fn x = true → X.env.cells.lookup x = some c → X.s₀.heap.objs.size ≤ c
  hd : X.calm = true → X.A.handled = none
  frames : X.A.frames = some X.stack
  stk : X.stack = X.outer ∨ (X.stack = X.env :: X.outer ∧ X.env.frame = some X.env.locals)
  exf : ∀ b ∈ X.ex, b ≠ X.env.locals ∧ ∀ x c, X.env.cells.lookup x = some c → c ≠ b
  bs : ∀ b o, X.base.get? b = some o → X.s₀.heap.get? b = some o ∧ X.H₀ b = none
  bsz : X.base.objs.size ≤ X.s₀.heap.objs.size
  noex : ∀ b o, X.base.get? b = some o → b ∉ X.ex
  exfs : ∀ b ∈ X.ex, b ∉ X.fs
  funs : X.s₀.heap.FunFrames X.base X.outer
  frf : ∀ b ∈ X.fs, X.H₀ b = none
structure Inv (X : Cx) (pins : List (Addr × Obj)) (σ : List (Option V)) (H : Hp) (s : Shared) : Prop where
  ok : X.Ok
  os : s.os = X.s₀.os
  bare : AllBare s.gens
  base : Un X.fs X.ex X.H₀ H X.s₀.heap s.heap
  loc : ∃ m, s.heap.Ns X.env.locals m ∧ ∀ (i : Nat) (x : Str) (v : V), X.N[i]? = some x → σ[i]? = some (some v) → Vis X.env.scope x → ∃ u, RelV v u ∧ Look X.env s.heap m x u
  cell : ∀ x c, X.env.cells.lookup x = some c → ∃ v, s.heap.IsCell c v
  free : H X.env.locals = none
  freeC : ∀ x c, X.env.cells.lookup x = some c → H c = none
  pin : ∀ p ∈ X.pn ++ pins, s.heap.get? p.1 = some p.2 ∧ H p.1 = none ∧ p.1 ≠ X.env.locals ∧ p.1 ∉ X.fs ∧ ∀ v, p.2.data ≠ .cell v
  hok : HOk X.prog X.w H s.heap
  len : σ.length = X.N.length
section
variable {X : Cx} {pins : List (Addr × Obj)} {σ : List (Option V)} {H H' : Hp} {s : Shared} {h' : Heap}
theorem Cx.Ok.nofr (ok : X.Ok) {b : Addr} {o : Obj} (e : X.base.get? b = some o) : b ∉ X.fs := fun hb => by
  have := (ok.funs.mem hb).1
  rw [e] at this; cases this
theorem Inv.bs (I : Inv X pins σ H s) : ∀ b o, X.base.get? b = some o → s.heap.get? b = some o ∧ H b = none := fun b o e =>
  ⟨I.base.keep b o (I.ok.bs b o e).1 (I.ok.bs b o e).2 (I.ok.nofr e) (I.ok.noex b o e), I.base.free b o (I.ok.bs b o e).1 (I.ok.bs b o e).2 (I.ok.noex b o e)⟩
theorem Inv.bk (I : Inv X pins σ H s) : ∀ b o, X.base.get? b = some o → s.heap.get? b = some o := fun b o e => (I.bs b o e).1
theorem Inv.mod (I : Inv X pins σ H s) : Mod X.K X.mg X.base := I.ok.mod
theorem Inv.kIn (I : Inv X pins σ H s) : X.K.In s.heap := I.ok.mod.kin.keeps I.bk
theorem Inv.nolimit (I : Inv X pins σ H s) : s.heap.NoLimit := I.ok.mod.nolimit.keeps I.bk
theorem Inv.fr (I : Inv X pins σ H s) : ∃ m, Fr X.base X.env.locals s.heap m :=
  let ⟨m, hn, _⟩ := I.loc
  ⟨m, hn, I.bk, Nat.le_trans I.ok.bsz I.ok.above⟩
theorem Inv.lt (I : Inv X pins σ H s) : X.env.locals < s.heap.objs.size := let ⟨_, hn, _⟩ := I.loc; hn.lt
theorem Inv.sz (I : Inv X pins σ H s) : X.s₀.heap.objs.size ≤ s.heap.objs.size := Nat.le_trans I.ok.above (Nat.le_of_lt I.lt)
theorem Inv.nofs (I : Inv X pins σ H s) {a : Addr} (h : s.heap.objs.size ≤ a) : a ∉ X.fs := fun hb => by
  obtain ⟨_, o, ho, _⟩ := I.ok.funs.mem hb
  exact absurd (Nat.lt_of_lt_of_le (Heap.lt_size ho) (Nat.le_trans I.sz h)) (Nat.lt_irrefl _)
theorem Inv.cne (I : Inv X pins σ H s) : ∀ x c, X.env.cells.lookup x = some c → c ≠ X.env.locals := fun x c e z => by
  obtain ⟨v, o, ho, hd⟩ := I.cell x c e
  obtain ⟨m, ⟨o', es, ep, ho', hd', _⟩, _⟩ := I.loc
  rw [z, ho'] at ho; cases ho; rw [hd'] at hd; cases hd
theorem Inv.funs (I : Inv X pins σ H s) : s.heap.FunFrames X.base X.outer := by
  have all : ∀ (l : List Env), (∀ b ∈ frs l, b ∈ X.fs) → X.s₀.heap.FunFrames X.base l → s.heap.FunFrames X.base l := by
    intro l
    induction l with
    | nil => intro _ _; trivial
    | cons env r ih =>
      intro hs hl
      obtain ⟨hk, ⟨L, o, hf, hn, ho, hd⟩, hr⟩ := hl
      have hL : L ∈ X.fs := hs L (by unfold frs; rw [List.filterMap_cons, hf]; exact List.mem_cons_self)
      obtain ⟨sl, e⟩ := I.base.slot L o ho (I.ok.frf L hL) hL fun z => I.ok.exfs L z hL
      exact ⟨hk, ⟨L, _, hf, hn, e, hd⟩, ih (fun b hb => hs b (by unfold frs; rw [List.filterMap_cons, hf]; exact List.mem_cons_of_mem _ hb)) hr⟩
  exact all X.outer (fun _ hb => hb) I.ok.funs
theorem Inv.stack (I : Inv X pins σ H s) : s.heap.FunFrames X.base X.stack := by
  rcases I.ok.stk with e | ⟨e, hf⟩
  · rw [e]; exact I.funs
  · rw [e]
    obtain ⟨m, hn, _⟩ := I.loc
    refine .cons (by rw [I.ok.kind]; decide) hf hn ?_ I.funs
    exact Heap.get?_none_of_le (Nat.le_trans I.ok.bsz I.ok.above)
theorem Inv.stkSub (I : Inv X pins σ H s) : ∀ b ∈ frs X.stack, b ∈ X.env.locals :: X.fs := fun b hb => by
  rcases I.ok.stk with e | ⟨e, hf⟩
  · rw [e] at hb; exact List.mem_cons_of_mem _ hb
  · rw [e] at hb
    unfold frs at hb
    rw [List.filterMap_cons, hf] at hb
    exact hb
theorem Inv.stkFree (I : Inv X pins σ H s) : ∀ b ∈ frs X.stack, H b = none := fun b hb => by
  rcases List.mem_cons.mp (I.stkSub b hb) with e | hb
  · rw [e]; exact I.free
  · obtain ⟨_, o, ho, _⟩ := I.ok.funs.mem hb
    exact I.base.free b o ho (I.ok.frf b hb) fun z => I.ok.exfs b z hb
theorem Inv.step {g' : Array GenState} {t' : Nat} {d' : Drawn} {ch : List Addr} (I : Inv X pins σ H s)
    (hch : ∀ b ∈ ch, (b ∈ X.ex ∨ X.s₀.heap.objs.size ≤ b) ∧ b ≠ X.env.locals ∧ (∀ x c, X.env.cells.lookup x = some c → c ≠ b) ∧ ∀ p ∈ X.pn ++ pins, p.1 ≠ b)
    (keep : ∀ b o, b ≠ X.env.locals → b ∉ X.fs → b ∉ ch → s.heap.get? b = some o → H b = none → h'.get? b = some o)
    (slot : ∀ b o, b ≠ X.env.locals → b ∈ X.fs → b ∉ ch → s.heap.get? b = some o → H b = none → ∃ sl, h'.get? b = some { o with slots := sl }) (free : ∀ b o, b ∉ ch → s.heap.get? b = some o → H b = none → H' b = none)
    (there : ∀ b o, b ∉ ch → s.heap.get? b = some o → ∃ o', h'.get? b = some o')
    (tups : ∀ b xs, H b = some (.tup xs) → H' b = some (.tup xs)) (frzs : ∀ b o u, H b = some (.frz o u) → H' b = some (.frz o u)) (tbls : ∀ b ps, H b = some (.tbl ps) → ∃ more, H' b = some (.tbl (ps ++ more)))
    (ns : ∀ m, s.heap.Ns X.env.locals m → h'.Ns X.env.locals m) (hok : HOk X.prog X.w H' h') (hg : AllBare g') :
    Inv X pins σ H' { s with heap := h', gens := g', drawn := d', toks := t' } := by
  have neL : ∀ b o, X.s₀.heap.get? b = some o → b ≠ X.env.locals := fun b o e => Nat.ne_of_lt (Nat.lt_of_lt_of_le (Heap.lt_size e) I.ok.above)
  have neC : ∀ b o, X.s₀.heap.get? b = some o → b ∉ X.ex → b ∉ ch := fun b o e hx hb => by
    rcases (hch b hb).1 with z | z
    · exact hx z
    · exact absurd (Nat.lt_of_lt_of_le (Heap.lt_size e) z) (Nat.lt_irrefl _)
  have cellK : ∀ x c, X.env.cells.lookup x = some c → ∀ v, s.heap.IsCell c v → h'.IsCell c v := fun x c e v ⟨o, ho, hd⟩ => by
    have nch : c ∉ ch := fun z => (hch c z).2.2.1 x c e rfl
    by_cases hc : c ∈ X.fs
    · obtain ⟨sl, q⟩ := slot c o (I.cne x c e) hc nch ho (I.freeC x c e)
      exact ⟨_, q, hd⟩
    · exact ⟨o, keep c o (I.cne x c e) hc nch ho (I.freeC x c e), hd⟩
  refine ⟨I.ok, I.os, hg, ⟨fun b o e n hb hx => ?_, fun b o e n hb hx => ?_, fun b o e n hx => ?_, fun b o e hx => ?_, fun b xs e => tups b xs (I.base.tups b xs e), fun b o xs e => frzs b o xs (I.base.frzs b o xs e), fun b ps e => ?_⟩, ?_, fun x c e => ?_, ?_, fun x c e => ?_, fun p hp => ?_, hok, I.len⟩
  · exact keep b o (neL b o e) hb (neC b o e hx) (I.base.keep b o e n hb hx) (I.base.free b o e n hx)
  · obtain ⟨sl, e1⟩ := I.base.slot b o e n hb hx
    obtain ⟨sl', e2⟩ := slot b _ (neL b o e) hb (neC b o e hx) e1 (I.base.free b o e n hx)
    exact ⟨sl', e2⟩
  · obtain ⟨o', e1⟩ := I.base.there b o e hx
    exact free b o' (neC b o e hx) e1 (I.base.free b o e n hx)
  · obtain ⟨o', e1⟩ := I.base.there b o e hx
    exact there b o' (neC b o e hx) e1
  · obtain ⟨m1, e1⟩ := I.base.tbls b ps e
    obtain ⟨m2, e2⟩ := tbls b _ e1
    exact ⟨m1 ++ m2, by rw [e2, Array.append_assoc]⟩
  · obtain ⟨m, hn, hl⟩ := I.loc
    refine ⟨m, ns m hn, fun i x v e1 e2 e3 => ?_⟩
    obtain ⟨u, r, l⟩ := hl i x v e1 e2 e3
    refine ⟨u, r, ?_⟩
    rcases l with l | ⟨k, c, e, z⟩
    · exact .inl l
    · exact .inr ⟨k, c, e, cellK x c e _ z⟩
  · obtain ⟨v, z⟩ := I.cell x c e
    exact ⟨v, cellK x c e v z⟩
  · obtain ⟨m, ⟨o, _, _, ho, _⟩, _⟩ := I.loc
    exact free _ o (fun z => (hch _ z).2.1 rfl) ho I.free
  · obtain ⟨v, o, ho, hd⟩ := I.cell x c e
    exact free c o (fun z => (hch c z).2.2.1 x c e rfl) ho (I.freeC x c e)
  · obtain ⟨e, n, ne, nf, d⟩ := I.pin p hp
    have nch : p.1 ∉ ch := fun z => (hch p.1 z).2.2.2 p hp rfl
    exact ⟨keep p.1 p.2 ne nf nch e n, free p.1 p.2 nch e n, ne, nf, d⟩
theorem Inv.un {t' : Nat} (I : Inv X pins σ H s) (u : Un X.fs [] H H' s.heap h') (hok : HOk X.prog X.w H' h') : Inv X pins σ H' { s with heap := h', toks := t' } := by
  obtain ⟨m, ⟨o, es, ep, ho, r⟩, _⟩ := id I.loc
  obtain ⟨sl, hL⟩ := u.any ho I.free (by simp)
  exact I.step (g' := s.gens) (d' := s.drawn) (ch := []) (fun _ z => nomatch z) (fun b o _ hb _ e n => u.keep b o e n hb (by simp)) (fun b o _ hb _ e n => u.slot b o e n hb (by simp)) (fun b o _ e n => u.free b o e n (by simp)) (fun b o _ e => u.there b o e (by simp)) u.tups u.frzs u.tbls (fun m' hm => by
    obtain ⟨o', es', ep', ho', r'⟩ := hm
    rw [ho] at ho'; cases ho'
    exact ⟨_, es', ep', hL, r'⟩) hok I.bare
theorem Inv.call {g' : Array GenState} {t' : Nat} {d' : Drawn} {ch : List Addr} (I : Inv X pins σ H s) (u : Un (frs X.stack) ch H H' s.heap h') (hok : HOk X.prog X.w H' h') (hg : AllBare g')
    (hch : ∀ b ∈ ch, (b ∈ X.ex ∨ X.s₀.heap.objs.size ≤ b) ∧ b ≠ X.env.locals ∧ (∀ x c, X.env.cells.lookup x = some c → c ≠ b) ∧ ∀ p ∈ X.pn ++ pins, p.1 ≠ b) :
    Inv X pins σ H' { s with heap := h', gens := g', drawn := d', toks := t' } := by
  obtain ⟨m, ⟨o, es, ep, ho, r⟩, _⟩ := id I.loc
  obtain ⟨sl, hL⟩ := u.any ho I.free fun z => (hch _ z).2.1 rfl
  exact I.step (ch := ch) hch (fun b o hL hb hc e n => u.keep b o e n (fun z => (List.mem_cons.mp (I.stkSub b z)).elim hL hb) hc) (fun b o _ _ hc e n => u.any e n hc) (fun b o hc e n => u.free b o e n hc) (fun b o hc e => u.there b o e hc) u.tups u.frzs u.tbls (fun m' hm => by
    obtain ⟨o', es', ep', ho', r'⟩ := hm
    rw [ho] at ho'; cases ho'
    exact ⟨_, es', ep', hL, r'⟩) hok hg
theorem Inv.turned {t' : Nat} {it : Addr} (I : Inv X pins σ H s) (k : ∀ b o, b ≠ it → s.heap.get? b = some o → h'.get? b = some o) (hn : H it = none) (hL : it ≠ X.env.locals)
    (h1 : it ∈ X.ex ∨ X.s₀.heap.objs.size ≤ it) (h2 : ∀ x c, X.env.cells.lookup x = some c → c ≠ it) (h3 : ∀ p ∈ X.pn ++ pins, p.1 ≠ it) : Inv X pins σ H { s with heap := h', toks := t' } := by
  have nit : ∀ b u, H b = some u → b ≠ it := fun b u e z => by rw [z, hn] at e; cases e
  refine I.step (g' := s.gens) (d' := s.drawn) (ch := [it]) (fun b hb => ?_) (fun b o _ _ hc e _ => k b o (fun z => hc (by simp [z])) e) (fun b o _ _ hc e _ => ⟨o.slots, k b o (fun z => hc (by simp [z])) e⟩) (fun _ _ _ _ n => n)
    (fun b o hc e => ⟨o, k b o (fun z => hc (by simp [z])) e⟩) (fun _ _ e => e) (fun _ _ _ e => e) (fun b ps e => ⟨#[], by rw [e]; simp⟩) (fun m hm => ?_) (fun b u e => ?_) I.bare
  · have e : b = it := by simpa using hb
    subst e
    exact ⟨h1, hL, h2, h3⟩
  · obtain ⟨o, es, ep, ho, r⟩ := hm
    exact ⟨o, es, ep, k _ o (Ne.symm hL) ho, r⟩
  · refine (I.hok b u e).stay (fun c v hc q => k c v ?_ q) (fun _ q => q) fun _ _ q => q
    rcases hc with z | z
    · rw [z]; exact nit b u e
    · exact nit c _ z
theorem Inv.tok (I : Inv X pins σ H s) (t : Nat) : Inv X pins σ H { s with toks := t } := I.un (h' := s.heap) (t' := t) Un.refl I.hok
theorem Inv.kept {t' : Nat} (I : Inv X pins σ H s) (k : ∀ b u, s.heap.get? b = some u → h'.get? b = some u) : Inv X pins σ H { s with heap := h', toks := t' } := I.un (Un.kept k) (I.hok.kept k)
theorem Inv.laid {a : Addr} {o : HO} {t' : Nat} (I : Inv X pins σ H s) (k : ∀ b u, s.heap.get? b = some u → h'.get? b = some u) (hp : s.heap.objs.size ≤ a) (new : ObjOk X.prog X.w (upd H a o) h' a o) :
    Inv X pins σ (upd H a o) { s with heap := h', toks := t' } := I.un (Un.laid k hp (I.hok.fresh hp)) (I.hok.laid k hp new)
theorem Inv.write {x e : Addr} {o : HO} {t' : Nat} (I : Inv X pins σ H s) (mu : Mut (H x)) (he : e = x ∨ H e = some (.own x)) (k : ∀ b u, b ≠ e → s.heap.get? b = some u → h'.get? b = some u) (heo : ∃ u, h'.get? e = some u)
    (new : ObjOk X.prog X.w (upd H x o) h' x o) : Inv X pins σ (upd H x o) { s with heap := h', toks := t' } := I.un (Un.write mu he k heo) (I.hok.write mu he k heo new)
theorem Inv.weak {σ' : List (Option V)} (I : Inv X pins σ H s) (hl : σ'.length = σ.length) (w : ∀ (i : Nat) v, σ'[i]? = some (some v) → σ[i]? = some (some v)) : Inv X pins σ' H s :=
  ⟨I.ok, I.os, I.bare, I.base, let ⟨m, hn, hl'⟩ := I.loc; ⟨m, hn, fun i x v e1 e2 e3 => hl' i x v e1 (w i v e2) e3⟩, I.cell, I.free, I.freeC, I.pin, I.hok, hl.trans I.len⟩
theorem Inv.pins_of {pins' : List (Addr × Obj)} (I : Inv X pins σ H s) (h : ∀ p ∈ pins', s.heap.get? p.1 = some p.2 ∧ H p.1 = none ∧ p.1 ≠ X.env.locals ∧ p.1 ∉ X.fs ∧ ∀ v, p.2.data ≠ .cell v) : Inv X pins' σ H s :=
  ⟨I.ok, I.os, I.bare, I.base, I.loc, I.cell, I.free, I.freeC, fun p hp => (List.mem_append.mp hp).elim (fun z => I.pin p (List.mem_append_left _ z)) (h p), I.hok, I.len⟩
theorem nodup_ix {N : List Str} (hN : N.Nodup) {i j : Nat} {x : Str} (a : N[i]? = some x) (b : N[j]? = some x) : i = j := by
  obtain ⟨h1, e1⟩ := List.getElem?_eq_some_iff.mp a
  obtain ⟨h2, e2⟩ := List.getElem?_eq_some_iff.mp b
  exact (List.getElem_inj hN).mp (e1.trans e2.symm)
theorem store_ok2 {M : Model} {A : Around} {E : Value → Shared → Prop} {i : Nat} {x : Str} {v : V} {u : Value} {Q : Unit → Shared → Prop} (I : Inv X pins σ H s) (hN : X.N.Nodup) (hi : X.N[i]? = some x) (hx : Loc X.env.scope x) (r : RelV v u)
    (h : ∀ s', Inv X pins (σ.set i (some v)) H s' → (∃ a, Heap.SameBut a s.heap s'.heap ∧ (a = X.env.locals ∨ X.env.cells.lookup x = some a)) → Q () s') (hf : X.fn x = true ∨ X.env.scope.names.lookup x = some .local := by first | exact .inl rfl | exact .inr rfl | assumption) : wpAny M A (storeName X.env x u) Q E s := by
  obtain ⟨m, hn, hl⟩ := id I.loc
  have hcls : (X.env.scope.kind == .class || (X.env.scope.kind == .module && X.env.locals != X.env.globals)) = false := by rw [I.ok.kind]; rfl
  have hiσ : i < σ.length := by rw [I.len]; exact (List.getElem?_eq_some_iff.mp hi).1
  have cne := I.cne
  have tracked : ∀ {a : Addr} {h' : Heap}, (∃ o, s.heap.get? a = some o ∧ H a = none) → Heap.SameBut a s.heap h' → HOk X.prog X.w H h' := fun {a h'} ha hs b ob e => by
    obtain ⟨_, _, hfree⟩ := ha
    refine (I.hok b ob e).stay (fun c w' hc q => (hs.2 c ?_).trans q) (fun _ q => q) fun _ _ q => q
    rintro rfl
    rcases hc with rfl | hc
    · rw [hfree] at e; cases e
    · rw [hfree] at hc; cases hc
  rcases hx with hk | hk
  · refine wpAny_storeName_local hk hn (fun h' hn' hs => ?_) hcls
    obtain ⟨oL, _, _, hoL, _⟩ := id hn
    refine h _ ⟨I.ok, I.os, I.bare, ⟨fun b o e n hb hx => ?_, fun b o e n hb hx => ?_, I.base.free, fun b o e hx => ?_, I.base.tups, I.base.frzs, I.base.tbls⟩, ⟨_, hn', fun j y v' e1 e2 e3 => ?_⟩, fun y c e => ?_, I.free, I.freeC, fun p hp => ?_, tracked ⟨oL, hoL, I.free⟩ hs, by simpa using I.len⟩ ⟨_, hs, .inl rfl⟩
    · exact (hs.2 b (Nat.ne_of_lt (Nat.lt_of_lt_of_le (Heap.lt_size e) I.ok.above))).trans (I.base.keep b o e n hb hx)
    · obtain ⟨sl, e1⟩ := I.base.slot b o e n hb hx
      exact ⟨sl, (hs.2 b (Nat.ne_of_lt (Nat.lt_of_lt_of_le (Heap.lt_size e) I.ok.above))).trans e1⟩
    · obtain ⟨o', e1⟩ := I.base.there b o e hx
      exact ⟨o', (hs.2 b (Nat.ne_of_lt (Nat.lt_of_lt_of_le (Heap.lt_size e) I.ok.above))).trans e1⟩
    · by_cases hj : j = i
      · subst hj
        rw [hi] at e1; cases e1
        rw [List.getElem?_set_self hiσ] at e2
        cases e2
        exact ⟨u, r, .inl ⟨hk, by simp⟩⟩
      · rw [List.getElem?_set_ne (Ne.symm hj)] at e2
        obtain ⟨u', r', q⟩ := hl j y v' e1 e2 e3
        refine ⟨u', r', ?_⟩
        rcases q with ⟨k, e⟩ | ⟨k, c, e, z⟩
        · refine .inl ⟨k, ?_⟩
          have : y ≠ x := fun e => hj (nodup_ix hN e1 (e ▸ hi))
          simp [this, e]
        · exact .inr ⟨k, c, e, z.sameBut hs (cne y c e)⟩
    · obtain ⟨w', z⟩ := I.cell y c e
      exact ⟨w', z.sameBut hs (cne y c e)⟩
    · obtain ⟨e, n, ne, nf, d⟩ := I.pin p hp
      exact ⟨(hs.2 p.1 ne).trans e, n, ne, nf, d⟩
  · have hfn : X.fn x = true := by
      rcases hf with z | z
      · exact z
      · rw [z] at hk; cases hk
    obtain ⟨c, hc⟩ := I.ok.has x (.inl hk)
    obtain ⟨w', z⟩ := I.cell x c hc
    refine wpAny_storeName_cell I.ok.kind hk hc z (fun h' hc' hs => ?_)
    obtain ⟨oc, hoc, hocd⟩ := id z
    refine h { s with heap := h' } ⟨I.ok, I.os, I.bare, ⟨fun b o e n hb hx => ?_, fun b o e n hb hx => ?_, I.base.free, fun b o e hx => ?_, I.base.tups, I.base.frzs, I.base.tbls⟩, ⟨m, hn.sameBut hs (Ne.symm (cne x c hc)), fun j y v' e1 e2 e3 => ?_⟩, fun y c' e => ?_, I.free, I.freeC, fun p hp => ?_, tracked ⟨oc, hoc, I.freeC x c hc⟩ hs, by simpa using I.len⟩ ⟨c, hs, .inr hc⟩
    · exact (hs.2 b (Nat.ne_of_lt (Nat.lt_of_lt_of_le (Heap.lt_size e) (I.ok.cab x c hfn hc)))).trans (I.base.keep b o e n hb hx)
    · obtain ⟨sl, e1⟩ := I.base.slot b o e n hb hx
      exact ⟨sl, (hs.2 b (Nat.ne_of_lt (Nat.lt_of_lt_of_le (Heap.lt_size e) (I.ok.cab x c hfn hc)))).trans e1⟩
    · obtain ⟨o', e1⟩ := I.base.there b o e hx
      exact ⟨o', (hs.2 b (Nat.ne_of_lt (Nat.lt_of_lt_of_le (Heap.lt_size e) (I.ok.cab x c hfn hc)))).trans e1⟩
    · by_cases hj : j = i
      · subst hj
        rw [hi] at e1; cases e1
        rw [List.getElem?_set_self hiσ] at e2
        cases e2
        exact ⟨u, r, .inr ⟨.inl hk, c, hc, hc'⟩⟩
      · rw [List.getElem?_set_ne (Ne.symm hj)] at e2
        obtain ⟨u', r', q⟩ := hl j y v' e1 e2 e3
        refine ⟨u', r', ?_⟩
        rcases q with q | ⟨k, c', e, z'⟩
        · exact .inl q
        · refine .inr ⟨k, c', e, z'.sameBut hs ?_⟩
          rintro rfl
          exact hj (nodup_ix hN e1 (I.ok.inj _ _ _ e hc ▸ hi))
    · by_cases hcc : c' = c
      · subst hcc; exact ⟨_, hc'⟩
      · obtain ⟨w2, z2⟩ := I.cell y c' e
        exact ⟨w2, z2.sameBut hs hcc⟩
    · obtain ⟨e, n, ne, nf, d⟩ := I.pin p hp
      refine ⟨(hs.2 p.1 ?_).trans e, n, ne, nf, d⟩
      intro q
      rw [q, hoc] at e
      have q' : oc = p.2 := Option.some.inj e
      exact d w' (by rw [← q']; exact hocd)
theorem store_ok {M : Model} {A : Around} {E : Value → Shared → Prop} {i : Nat} {x : Str} {v : V} {u : Value} {Q : Unit → Shared → Prop} (I : Inv X pins σ H s) (hN : X.N.Nodup) (hi : X.N[i]? = some x) (hx : Loc X.env.scope x) (r : RelV v u)
    (h : ∀ s', Inv X pins (σ.set i (some v)) H s' → Q () s') (hf : X.fn x = true ∨ X.env.scope.names.lookup x = some .local := by first | exact .inl rfl | exact .inr rfl | assumption) : wpAny M A (storeName X.env x u) Q E s :=
  store_ok2 I hN hi hx r (fun s' I' _ => h s' I') hf
theorem Inv.call' {s' : Shared} {ch : List Addr} (I : Inv X pins σ H s) (ho : s'.os = s.os) (u : Un (frs X.stack) ch H H' s.heap s'.heap) (hok : HOk X.prog X.w H' s'.heap) (hg : AllBare s'.gens)
    (hch : ∀ b ∈ ch, (b ∈ X.ex ∨ X.s₀.heap.objs.size ≤ b) ∧ b ≠ X.env.locals ∧ (∀ x c, X.env.cells.lookup x = some c → c ≠ b) ∧ ∀ p ∈ X.pn ++ pins, p.1 ≠ b) : Inv X pins σ H' s' := by
  obtain ⟨h', g', d', t', o'⟩ := s'
  have e : o' = s.os := ho
  subst e
  exact I.call (g' := g') (t' := t') (d' := d') u hok hg hch
end
abbrev XK := Value → Option Addr → Hp → Prop
abbrev St := List (Option V)
abbrev VK := V → Hp → Prop
abbrev TE := St → Hp → VK → Prop
abbrev TT := St → Hp → (Bool → Hp → Prop) → Prop
abbrev TA := St → Hp → (List V → Hp → Prop) → Prop
structure Ends where
  nx : St → Hp → Prop
  rt : VK
  bk : St → Hp → Prop := fun _ _ => False
  ct : St → Hp → Prop := fun _ _ => False
abbrev TS := Ends → St → Hp → Prop
def EP (X : Cx) (pins : List (Addr × Obj)) (σ : St) (Q : VK) (u : Value) (s' : Shared) : Prop := ∃ v H', Inv X pins σ H' s' ∧ RelV v u ∧ Q v H'
def TP (X : Cx) (pins : List (Addr × Obj)) (σ : St) (Q : Bool → Hp → Prop) (b : Bool) (s' : Shared) : Prop := ∃ H', Inv X pins σ H' s' ∧ Q b H'
def AP (X : Cx) (pins : List (Addr × Obj)) (σ : St) (Q : List V → Hp → Prop) (us : List Value) (s' : Shared) : Prop := ∃ vs H', Inv X pins σ H' s' ∧ Vals vs us ∧ Q vs H'
def SP (X : Cx) (pins : List (Addr × Obj)) (D : Ends) (f : Flow) (s' : Shared) : Prop :=
  match f with
  | .next => ∃ σ' H', Inv X pins σ' H' s' ∧ D.nx σ' H'
  | .brk => ∃ σ' H', Inv X pins σ' H' s' ∧ D.bk σ' H'
  | .cont => ∃ σ' H', Inv X pins σ' H' s' ∧ D.ct σ' H'
  | .ret u => ∃ v σ' H', Inv X pins σ' H' s' ∧ RelV v u ∧ D.rt v H'
def PE (X : Cx) (e : Expr) (t : TE) : Prop :=
  ∀ (pins : List (Addr × Obj)) (s : Shared) (σ : St) (H : Hp) (Q : VK), Inv X pins σ H s → t σ H Q → wpAny (model X.prog X.w) X.A (eval e X.env) (EP X pins σ Q) X.xe s
def PT (X : Cx) (e : Expr) (t : TT) : Prop :=
  ∀ (pins : List (Addr × Obj)) (s : Shared) (σ : St) (H : Hp) (Q : Bool → Hp → Prop), Inv X pins σ H s → t σ H Q → wpAny (model X.prog X.w) X.A (isTrue e X.env (eval e X.env)) (TP X pins σ Q) X.xe s
def PW (X : Cx) (e : Expr) (t : TT) : Prop :=
  ∀ (whole : Sem Value) (pins : List (Addr × Obj)) (s : Shared) (σ : St) (H : Hp) (Q : Bool → Hp → Prop), Inv X pins σ H s → t σ H Q → wpAny (model X.prog X.w) X.A (isTrue e X.env whole) (TP X pins σ Q) X.xe s
theorem PW.pt {X : Cx} {e : Expr} {t : TT} (h : PW X e t) : PT X e t := h _
def PA (X : Cx) (es : List Expr) (t : TA) : Prop :=
  ∀ (pos : Pos) (pins : List (Addr × Obj)) (s : Shared) (σ : St) (H : Hp) (Q : List V → Hp → Prop), Inv X pins σ H s → t σ H Q → wpAny (model X.prog X.w) X.A (spliced (backTo pos (starEach es X.env))) (AP X pins σ Q) X.xe s
def PS (X : Cx) (st : Stmt) (t : TS) : Prop :=
  ∀ (pins : List (Addr × Obj)) (s : Shared) (σ : St) (H : Hp) (D : Ends), Inv X pins σ H s → t D σ H → wpAny (model X.prog X.w) X.A (exec st X.env) (SP X pins D) X.xe s
def PSs (X : Cx) (st : List Stmt) (t : TS) : Prop :=
  ∀ (pins : List (Addr × Obj)) (s : Shared) (σ : St) (H : Hp) (D : Ends), Inv X pins σ H s → t D σ H → wpAny (model X.prog X.w) X.A (execs st X.env) (SP X pins D) X.xe s
theorem thn {α : Type} {t : Sem α} {Q Q' : α → Shared → Prop} {M : Model} {A : Around} {E : Value → Shared → Prop} {s : Shared} (h : wpAny M A t Q E s) (hQ : ∀ a s, Q a s → Q' a s) : wpAny M A t Q' E s := wpAny_mono h hQ fun _ _ x => x
end L2
namespace L2
open PySem PySem.Spec PyProof.Rows
section
variable {X : Cx}
theorem bin {a b : Expr} {ta tb : TE} (ha : PE X a ta) (hb : PE X b tb) {pins : List (Addr × Obj)} {s : Shared} {σ : St} {H : Hp} {R : V → V → Hp → Prop} (I : Inv X pins σ H s) (h : ta σ H fun x H1 => tb σ H1 fun y H2 => R x y H2)
    {α : Type} {Q : α → Shared → Prop} {f : Value → Value → Sem α}
    (hf : ∀ v u s2 x y H2, Inv X pins σ H2 s2 → RelV x v → RelV y u → R x y H2 → wpAny (model X.prog X.w) X.A (f v u) Q X.xe s2) :
    wpAny (model X.prog X.w) X.A (eval a X.env) (fun v s₁ => wpAny (model X.prog X.w) X.A (eval b X.env) (fun u s₂ => wpAny (model X.prog X.w) X.A (f v u) Q X.xe s₂) X.xe s₁) X.xe s := by
  refine thn (ha pins s σ H _ I h) fun v s1 ⟨x, H1, I1, r1, q1⟩ => ?_
  refine thn (hb pins s1 σ H1 _ I1 q1) fun u s2 ⟨y, H2, I2, r2, q2⟩ => ?_
  exact hf v u s2 x y H2 I2 r1 r2 q2
def tVar (i : Nat) : TE := fun σ H Q => ∃ v, σ[i]? = some (some v) ∧ Q v H
def tC (v : V) : TE := fun _ H Q => Q v H
theorem pe_var {i : Nat} {x : Str} {pos : Pos} (hN : X.N[i]? = some x) (hv : Vis X.env.scope x) (hd : (x == ("__debug__" : Str)) = false := by decide) (hcd : (x == ("__classdict__" : Str)) = false := by decide) : PE X (.Name x pos) (tVar i) := by
  intro pins s σ H Q I h
  obtain ⟨v, e, h⟩ := h
  obtain ⟨m, hn, hl⟩ := I.loc
  obtain ⟨u, r, l⟩ := hl i x v hN e hv
  have fin : EP X pins σ Q u s := ⟨v, H, I, r, h⟩
  rcases l with ⟨hk, hm⟩ | ⟨hk, c, hc, hcell⟩
  · exact wpAny_Name (wpAny_loadName_local I.ok.kind hk hn hm fin) hd
  · rcases hk with hk | hk
    · exact wpAny_Name (wpAny_loadName_cell I.ok.kind hk hc hcell fin) hd
    · exact wpAny_Name (wpAny_loadName_free I.ok.kind hk hc hcell fin hcd) hd
theorem pe_int {i j pos} : PE X (.Constant (.int i) j pos) (tC (.int i)) := fun _ _ _ H _ I h => wpAny_Constant_int ⟨.int i, H, I.tok _, ⟨_, rfl⟩, h⟩
theorem pe_bl {b j pos} : PE X (.Constant (.bool b) j pos) (tC (.bl b)) := fun _ _ _ H _ I h => Constant_bool ⟨.bl b, H, I, rfl, h⟩
theorem pe_non {j pos} : PE X (.Constant .none j pos) (tC .non) := fun _ _ _ H _ I h => Constant_none ⟨.non, H, I, rfl, h⟩
theorem pe_str {x j pos} : PE X (.Constant (.str x) j pos) (tC (.str x)) := fun _ _ _ H _ I h => Calls.Constant_str ⟨.str x, H, I.tok _, ⟨_, rfl⟩, h⟩
def Gl (X : Cx) (x : Str) : Prop := X.env.kindOf x = some .globalImplicit
theorem ld_glob {E : Value → Shared → Prop} {pins : List (Addr × Obj)} {s : Shared} {σ : St} {H : Hp} {x : Str} {u : Value} {pos : Pos} {Q : Value → Shared → Prop} (I : Inv X pins σ H s) (hg : Gl X x) (hm : X.mg x = some u) (h : Q u s)
    (hd : (x == ("__debug__" : Str)) = false := by decide) : wpAny (model X.prog X.w) X.A (eval (.Name x pos) X.env) Q E s :=
  Calls.Name_function_global I.ok.kind hg (Calls.loadGlobal_global (by rw [I.ok.glob]; exact I.mod.glob.keeps I.bk) hm h) hd
theorem ld_blt {E : Value → Shared → Prop} {pins : List (Addr × Obj)} {s : Shared} {σ : St} {H : Hp} {x : Str} {u : Value} {pos : Pos} {Q : Value → Shared → Prop} (I : Inv X pins σ H s) (hg : Gl X x) (hm : X.mg x = none) (hv : bootBuiltins x = some u) (h : Q u s)
    (hn : x ≠ "__name__" := by decide) (hd : (x == ("__debug__" : Str)) = false := by decide) : wpAny (model X.prog X.w) X.A (eval (.Name x pos) X.env) Q E s := by
  obtain ⟨mb, h1, h2⟩ := I.mod.blt
  exact Calls.Name_function_global I.ok.kind hg (Calls.loadGlobal_builtin (by rw [I.ok.glob]; exact I.mod.glob.keeps I.bk) hm (by rw [I.ok.blt]; exact h1.keeps I.bk) ((h2 x hn).trans hv) h) hd
theorem pe_glob {x : Str} {v : V} {u : Value} {pos : Pos} (hg : Gl X x) (hm : X.mg x = some u) (r : RelV v u) (hd : (x == ("__debug__" : Str)) = false := by decide) : PE X (.Name x pos) (tC v) :=
  fun _ _ _ H _ I h => ld_glob I hg hm ⟨v, H, I, r, h⟩ hd
theorem pe_bltn {x : Str} {v : V} {u : Value} {pos : Pos} (hg : Gl X x) (hm : X.mg x = none) (hv : bootBuiltins x = some u) (r : RelV v u) (hn : x ≠ "__name__" := by decide) (hd : (x == ("__debug__" : Str)) = false := by decide) : PE X (.Name x pos) (tC v) :=
  fun _ _ _ H _ I h => ld_blt I hg hm hv ⟨v, H, I, r, h⟩ hn hd
def t2I (ta tb : TE) (k : Int → Int → Hp → Prop) : St → Hp → Prop := fun σ H => ta σ H fun x H1 => tb σ H1 fun y H2 => ∃ i j, x = .int i ∧ y = .int j ∧ k i j H2
def tAdd (ta tb : TE) : TE := fun σ H Q => t2I ta tb (fun i j H2 => Q (.int (i + j)) H2) σ H
def tSub (ta tb : TE) : TE := fun σ H Q => t2I ta tb (fun i j H2 => Q (.int (i - j)) H2) σ H
def tMul (ta tb : TE) : TE := fun σ H Q => t2I ta tb (fun i j H2 => (-(2 ^ 64) < i ∧ i < 2 ^ 64) ∧ Q (.int (i * j)) H2) σ H
variable {a b : Expr} {ta tb : TE} {pos : Pos}
theorem pe_add (ha : PE X a ta) (hb : PE X b tb) : PE X (.BinOp a .Add b pos) (tAdd ta tb) := by
  intro pins s σ H Q I h
  refine wpAny_BinOp (bin ha hb I h fun v u s2 x y H2 I2 rx ry q => ?_)
  obtain ⟨i, j, rfl, rfl, q⟩ := q
  obtain ⟨t, rfl⟩ := rx
  obtain ⟨t', rfl⟩ := ry
  exact add_int ⟨.int _, H2, I2.tok _, ⟨_, rfl⟩, q⟩
theorem pe_sub (ha : PE X a ta) (hb : PE X b tb) : PE X (.BinOp a .Sub b pos) (tSub ta tb) := by
  intro pins s σ H Q I h
  refine wpAny_BinOp (bin ha hb I h fun v u s2 x y H2 I2 rx ry q => ?_)
  obtain ⟨i, j, rfl, rfl, q⟩ := q
  obtain ⟨t, rfl⟩ := rx
  obtain ⟨t', rfl⟩ := ry
  exact sub_int ⟨.int _, H2, I2.tok _, ⟨_, rfl⟩, q⟩
theorem pe_mul (ha : PE X a ta) (hb : PE X b tb) : PE X (.BinOp a .Mult b pos) (tMul ta tb) := by
  intro pins s σ H Q I h
  refine wpAny_BinOp (bin ha hb I h fun v u s2 x y H2 I2 rx ry q => ?_)
  obtain ⟨i, j, rfl, rfl, ⟨q1, q2⟩, q⟩ := q
  obtain ⟨t, rfl⟩ := rx
  obtain ⟨t', rfl⟩ := ry
  exact mul_int ⟨.int _, H2, I2.tok _, ⟨_, rfl⟩, q⟩ (.of_left (intBits_le_64 q1 q2))
def PC (X : Cx) (op : CmpOp) (a b : Expr) (t : TE) : Prop :=
  ∀ (pins : List (Addr × Obj)) (s : Shared) (σ : St) (H : Hp) (Q : VK), Inv X pins σ H s → t σ H Q →
    wpAny (model X.prog X.w) X.A (eval a X.env) (fun v s₁ => wpAny (model X.prog X.w) X.A (eval b X.env) (fun u s₂ => wpAny (model X.prog X.w) X.A (compareOp op v u) (EP X pins σ Q) X.xe s₂) X.xe s₁) X.xe s
theorem nobehind (b : Expr) {op : CmpOp} (h : op ≠ .In) (h2 : op ≠ .NotIn) : behindInMarks op b = false := by
  have e1 : (op == CmpOp.In) = false := by cases op <;> first | rfl | exact absurd rfl h
  have e2 : (op == CmpOp.NotIn) = false := by cases op <;> first | rfl | exact absurd rfl h2
  cases b <;> simp [behindInMarks, e1, e2]
def tCmp (p : Int → Int → Bool) (ta tb : TE) : TE := fun σ H Q => t2I ta tb (fun i j H2 => Q (.bl (p i j)) H2) σ H
abbrev tLt : TE → TE → TE := tCmp fun i j => decide (i < j)
abbrev tLe : TE → TE → TE := tCmp fun i j => decide (i ≤ j)
abbrev tGt : TE → TE → TE := tCmp fun i j => decide (j < i)
abbrev tGe : TE → TE → TE := tCmp fun i j => decide (j ≤ i)
abbrev tEqI : TE → TE → TE := tCmp fun i j => decide (i = j)
abbrev tNeI : TE → TE → TE := tCmp fun i j => !decide (i = j)
theorem pc_int {op : CmpOp} {p : Int → Int → Bool} (ha : PE X a ta) (hb : PE X b tb)
    (rule : ∀ (i j : Int) (t u : Tok) (Q : Value → Shared → Prop) (s : Shared), Q (.bool (p i j)) s → wpAny (model X.prog X.w) X.A (compareOp op (.int i t) (.int j u)) Q X.xe s) : PC X op a b (tCmp p ta tb) := by
  intro pins s σ H Q I h
  refine bin ha hb I h fun v u s2 x y H2 I2 rx ry q => ?_
  obtain ⟨i, j, rfl, rfl, q⟩ := q
  obtain ⟨t, rfl⟩ := rx
  obtain ⟨t', rfl⟩ := ry
  exact rule i j t t' _ s2 ⟨.bl _, H2, I2, rfl, q⟩
theorem pc_lt (ha : PE X a ta) (hb : PE X b tb) : PC X .Lt a b (tLt ta tb) := pc_int ha hb fun _ _ _ _ _ _ h => lt_int h
theorem pc_le (ha : PE X a ta) (hb : PE X b tb) : PC X .LtE a b (tLe ta tb) := pc_int ha hb fun _ _ _ _ _ _ h => le_int h
theorem pc_gt (ha : PE X a ta) (hb : PE X b tb) : PC X .Gt a b (tGt ta tb) := pc_int ha hb fun _ _ _ _ _ _ h => gt_int h
theorem pc_ge (ha : PE X a ta) (hb : PE X b tb) : PC X .GtE a b (tGe ta tb) := pc_int ha hb fun _ _ _ _ _ _ h => ge_int h
theorem pc_eqI (ha : PE X a ta) (hb : PE X b tb) : PC X .Eq a b (tEqI ta tb) := pc_int ha hb fun _ _ _ _ _ _ h => eq_int (by rw [Bool.beq_eq_decide_eq]; exact h)
theorem pc_neI (ha : PE X a ta) (hb : PE X b tb) : PC X .NotEq a b (tNeI ta tb) := pc_int ha hb fun _ _ _ _ _ _ h => ne_int (by rw [bne, Bool.beq_eq_decide_eq]; exact h)
def tIsN (ta : TE) : TE := fun σ H Q => ta σ H fun x H1 => Q (.bl (decide (x = .non))) H1
def tNotN (ta : TE) : TE := fun σ H Q => ta σ H fun x H1 => Q (.bl (!decide (x = .non))) H1
theorem RelV.none_iff {x : V} {v : Value} (r : RelV x v) : (v == Value.none) = decide (x = .non) := by
  cases x with
  | non => cases r; rfl
  | bl _ => cases r; rfl
  | int _ => obtain ⟨t, rfl⟩ := r; rfl
  | str _ => obtain ⟨t, rfl⟩ := r; rfl
  | byt _ => obtain ⟨t, rfl⟩ := r; rfl
  | flt _ => obtain ⟨t, rfl⟩ := r; rfl
  | ref _ => cases r; rfl
  | ty _ => cases r; rfl
theorem pc_isN {j pos'} (ha : PE X a ta) : PC X .Is a (.Constant .none j pos') (tIsN ta) := by
  intro pins s σ H Q I h
  refine thn (ha pins s σ H _ I h) fun v s1 ⟨x, H1, I1, r1, q1⟩ => ?_
  exact Constant_none (is_none_gen ⟨.bl _, H1, I1, by rw [r1.none_iff]; rfl, q1⟩)
theorem pc_notN {j pos'} (ha : PE X a ta) : PC X .IsNot a (.Constant .none j pos') (tNotN ta) := by
  intro pins s σ H Q I h
  refine thn (ha pins s σ H _ I h) fun v s1 ⟨x, H1, I1, r1, q1⟩ => ?_
  exact Constant_none (isnot_none_gen ⟨.bl _, H1, I1, by rw [r1.none_iff]; rfl, q1⟩)
def tB (t : TE) : TT := fun σ H Q => t σ H fun x H1 => ∃ c, x = .bl c ∧ Q c H1
theorem pe_cmp {op : CmpOp} {t : TE} (h : PC X op a b t) (h1 : behindInMarks op b = false := by first | exact nobehind _ (by decide) (by decide) | rfl) : PE X (.Compare a [op] [b] pos) t := fun pins s σ H Q I hw => wpAny_Compare1 (h pins s σ H Q I hw) h1
theorem pt_cmp {op : CmpOp} {t : TE} (h : PC X op a b t) (h1 : behindInMarks op b = false := by first | exact nobehind _ (by decide) (by decide) | rfl) : PT X (.Compare a [op] [b] pos) (tB t) := by
  intro pins s σ H Q I hw
  refine wpAny_isTrue_Compare1 (thn (h pins s σ H _ I hw) fun v s1 h1 => thn h1 fun u s2 h2 => thn h2 fun c s3 ⟨x, H1, I1, r1, q1⟩ => ?_) h1
  obtain ⟨d, rfl, q⟩ := q1
  cases r1
  exact wpAny_truthy_bool ⟨H1, I1, q⟩
theorem pt_val {e : Expr} {t : TE} (h : PE X e t) (he : ∀ whole, isTrue e X.env whole = (do let v ← whole; standAt e.pos; holding [v] (truthy v)) := by intro _; rfl) : PT X e (tB t) := by
  intro pins s σ H Q I hw
  refine isTrue_plain (thn (h pins s σ H _ I hw) fun v s1 ⟨x, H1, I1, r1, q1⟩ => ?_) (he _)
  obtain ⟨d, rfl, q⟩ := q1
  cases r1
  exact wpAny_truthy_bool ⟨H1, I1, q⟩
variable {tA tB' : TT} {rest : List Expr}
def tAnd (t u : TT) : TT := fun σ H Q => t σ H fun c H1 => if c = true then u σ H1 Q else Q false H1
def tOr (t u : TT) : TT := fun σ H Q => t σ H fun c H1 => if c = true then Q true H1 else u σ H1 Q
def tNot (t : TT) : TT := fun σ H Q => t σ H fun c H1 => Q (!c) H1
theorem pw_and1 (ha : PT X a tA) : PW X (.BoolOp .And [a] pos) tA := by
  intro wh pins s σ H Q I h
  refine isTrue_and (thn (ha pins s σ H Q I h) fun c s1 e => ?_)
  cases c with
  | true => exact isTrue_and_nil e
  | false => exact e
theorem pw_or1 (ha : PT X a tA) : PW X (.BoolOp .Or [a] pos) tA := by
  intro wh pins s σ H Q I h
  refine isTrue_or (thn (ha pins s σ H Q I h) fun c s1 e => ?_)
  cases c with
  | false => exact isTrue_or_nil e
  | true => exact e
theorem pw_and (ha : PT X a tA) (hb : PW X (.BoolOp .And (b :: rest) pos) tB') : PW X (.BoolOp .And (a :: b :: rest) pos) (tAnd tA tB') := by
  intro wh pins s σ H Q I h
  refine isTrue_and (thn (ha pins s σ H _ I h) fun c s1 ⟨H1, I1, q1⟩ => ?_)
  cases c with
  | true => exact hb wh pins s1 σ H1 Q I1 q1
  | false => exact ⟨H1, I1, q1⟩
theorem pw_or (ha : PT X a tA) (hb : PW X (.BoolOp .Or (b :: rest) pos) tB') : PW X (.BoolOp .Or (a :: b :: rest) pos) (tOr tA tB') := by
  intro wh pins s σ H Q I h
  refine isTrue_or (thn (ha pins s σ H _ I h) fun c s1 ⟨H1, I1, q1⟩ => ?_)
  cases c with
  | true => exact ⟨H1, I1, q1⟩
  | false => exact hb wh pins s1 σ H1 Q I1 q1
theorem pt_not (ha : PT X a tA) : PT X (.UnaryOp .Not a pos) (tNot tA) := by
  intro pins s σ H Q I h
  exact isTrue_not (ha pins s σ H (fun c H1 => Q (!c) H1) I h)
def tAndV (ta tb : TE) : TE := fun σ H Q => ta σ H fun x H1 => ∃ c, x = .bl c ∧ if c = true then tb σ H1 Q else Q (.bl false) H1
def tOrV (ta tb : TE) : TE := fun σ H Q => ta σ H fun x H1 => ∃ c, x = .bl c ∧ if c = true then Q (.bl true) H1 else tb σ H1 Q
def tNotV (ta : TE) : TE := fun σ H Q => ta σ H fun x H1 => ∃ c, x = .bl c ∧ Q (.bl (!c)) H1
theorem pe_one {op} {t : TE} (h : PE X a t) : PE X (.BoolOp op [a] pos) t := fun pins s σ H Q I hw => BoolOp_one (h pins s σ H Q I hw)
theorem pe_and (ha : PE X a ta) (hb : PE X (.BoolOp .And (b :: rest) pos) tb) : PE X (.BoolOp .And (a :: b :: rest) pos) (tAndV ta tb) := by
  intro pins s σ H Q I h
  refine BoolOp_and (thn (ha pins s σ H _ I h) fun v s1 ⟨x, H1, I1, r1, q1⟩ => ?_)
  obtain ⟨c, rfl, q1⟩ := q1
  cases r1
  refine wpAny_truthy_bool ?_
  cases c with
  | true => exact hb pins s1 σ H1 Q I1 q1
  | false => exact ⟨.bl false, H1, I1, rfl, q1⟩
theorem pe_or (ha : PE X a ta) (hb : PE X (.BoolOp .Or (b :: rest) pos) tb) : PE X (.BoolOp .Or (a :: b :: rest) pos) (tOrV ta tb) := by
  intro pins s σ H Q I h
  refine BoolOp_or (thn (ha pins s σ H _ I h) fun v s1 ⟨x, H1, I1, r1, q1⟩ => ?_)
  obtain ⟨c, rfl, q1⟩ := q1
  cases r1
  refine wpAny_truthy_bool ?_
  cases c with
  | false => exact hb pins s1 σ H1 Q I1 q1
  | true => exact ⟨.bl true, H1, I1, rfl, q1⟩
theorem pe_not (ha : PE X a ta) : PE X (.UnaryOp .Not a pos) (tNotV ta) := by
  intro pins s σ H Q I h
  refine UnaryOp_ (thn (ha pins s σ H _ I h) fun v s1 ⟨x, H1, I1, r1, q1⟩ => ?_)
  obtain ⟨c, rfl, q1⟩ := q1
  cases r1
  exact not_of (wpAny_truthy_bool ⟨.bl (!c), H1, I1, rfl, q1⟩)
def tIf (t : TT) (ta tb : TE) : TE := fun σ H Q => t σ H fun c H1 => if c = true then ta σ H1 Q else tb σ H1 Q
theorem pe_ifExp {c : Expr} (hc : PT X c tA) (ha : PE X a ta) (hb : PE X b tb) : PE X (.IfExp c a b pos) (tIf tA ta tb) := by
  intro pins s σ H Q I h
  refine wpAny_IfExp (thn (hc pins s σ H _ I h) fun d s1 ⟨H1, I1, q1⟩ => ?_)
  cases d with
  | true => exact ha pins s1 σ H1 Q I1 q1
  | false => exact hb pins s1 σ H1 Q I1 q1
end
end L2
namespace L2
open PySem PySem.Spec PyProof.Rows
def SqL (K : PySem.W.Frag) (H : Hp) (a : Addr) (xs : List V) : Prop :=
  Rd H a (.lst xs) ∨
    ∃ (o : Obj) (its : Array Value) (n : Nat), K.lookup a = some o ∧ o.cls = .type "list" ∧ o.dict = none ∧ o.data = .seq its n ∧ its.size ≤ sizeLine ∧ Vals xs its.toList
def SqT (K : PySem.W.Frag) (H : Hp) (a : Addr) (xs : List V) : Prop :=
  Rd H a (.tup xs) ∨
    ∃ (o : Obj) (its : Array Value) (n : Nat), K.lookup a = some o ∧ o.cls = .type "tuple" ∧ o.data = .seq its n ∧ its.size ≤ sizeLine ∧ Vals xs its.toList
def absV : Value → Option V
  | .none => some .non
  | .bool b => some (.bl b)
  | .int i _ => some (.int i)
  | .str x _ => some (.str x)
  | .bytes b _ => some (.byt b)
  | .float b _ => some (.flt b)
  | .ref a => some (.ref a)
  | .type n => some (.ty n)
  | _ => none
theorem RelV.abs {x : V} {u : Value} (r : RelV x u) : absV u = some x := by
  cases x with
  | non => cases r; rfl
  | bl _ => cases r; rfl
  | int _ => obtain ⟨t, rfl⟩ := r; rfl
  | str _ => obtain ⟨t, rfl⟩ := r; rfl
  | byt _ => obtain ⟨t, rfl⟩ := r; rfl
  | flt _ => obtain ⟨t, rfl⟩ := r; rfl
  | ref _ => cases r; rfl
  | ty _ => cases r; rfl
theorem RelV.inj {x y : V} {u : Value} (r : RelV x u) (q : RelV y u) : x = y := Option.some.inj (r.abs.symm.trans q.abs)
theorem Vals.inj : ∀ {xs ys : List V} {us : List Value}, Vals xs us → Vals ys us → xs = ys
  | _, _, _, .nil, .nil => rfl
  | _, _, _, .cons r t, .cons r' t' => by rw [r.inj r', Vals.inj t t']
section
variable {X : Cx} {pins : List (Addr × Obj)} {σ : St} {H : Hp} {s : Shared} {a : Addr} {xs ys : List V}
theorem SqL.of {K : PySem.W.Frag} (h : H a = some (.lst xs)) : SqL K H a xs := .inl (.inl h)
theorem SqT.of {K : PySem.W.Frag} (h : H a = some (.tup xs)) : SqT K H a xs := .inl (.inl h)
theorem Inv.list (I : Inv X pins σ H s) (h : SqL X.K H a xs) : ∃ its : List Value, Vals xs its ∧ PlainL s.heap a its.toArray ∧ xs.length ≤ sizeLine := by
  rcases h with h | ⟨o, its, n, hk, hc, hd, hs, hz, r⟩
  · obtain ⟨z, its, n, r, e⟩ := h.ok I.hok
    exact ⟨its, r, ⟨_, n, e, rfl, rfl, rfl⟩, z⟩
  · refine ⟨its.toList, r, ⟨o, n, I.kIn a o hk, hc, hd, by simpa using hs⟩, ?_⟩
    have e := r.length
    simp only [Array.length_toList] at e
    omega
theorem Inv.tuple (I : Inv X pins σ H s) (h : SqT X.K H a xs) : ∃ its : List Value, Vals xs its ∧ IsTup s.heap a its.toArray ∧ xs.length ≤ sizeLine := by
  rcases h with h | ⟨o, its, n, hk, hc, hs, hz, r⟩
  · obtain ⟨z, its, r, p⟩ := h.ok I.hok
    exact ⟨its, r, p, z⟩
  · refine ⟨its.toList, r, ⟨o, I.kIn a o hk, hc, n, by simpa using hs⟩, ?_⟩
    have e := r.length
    simp only [Array.length_toList] at e
    omega
theorem Inv.list_inj (I : Inv X pins σ H s) (h : SqL X.K H a xs) (h' : SqL X.K H a ys) : xs = ys := by
  obtain ⟨its, r, ⟨o, n, e, _, _, d⟩, _⟩ := I.list h
  obtain ⟨its', r', ⟨o', n', e', _, _, d'⟩, _⟩ := I.list h'
  rw [e] at e'; cases e'
  rw [d] at d'
  injection d' with d1 _
  have : its = its' := by simpa using congrArg Array.toList d1
  subst this
  exact r.inj r'
theorem Inv.tuple_inj (I : Inv X pins σ H s) (h : SqT X.K H a xs) (h' : SqT X.K H a ys) : xs = ys := by
  obtain ⟨its, r, ⟨o, e, _, n, d⟩, _⟩ := I.tuple h
  obtain ⟨its', r', ⟨o', e', _, n', d'⟩, _⟩ := I.tuple h'
  rw [e] at e'; cases e'
  rw [d] at d'
  injection d' with d1 _
  have : its = its' := by simpa using congrArg Array.toList d1
  subst this
  exact r.inj r'
end
abbrev Cx.wish (X : Cx) (E : Value → Shared → Prop) : Cx := { X with xe := E }
abbrev Cx.nox (X : Cx) : Cx := X.wish fun _ _ => False
theorem Cx.Ok.wish {X : Cx} (ok : X.Ok) (E : Value → Shared → Prop) : (X.wish E).Ok :=
  ⟨ok.mod, ok.kind, ok.glob, ok.blt, ok.above, ok.inj, ok.has, ok.cab, ok.hd, ok.frames, ok.stk, ok.exf, ok.bs, ok.bsz, ok.noex, ok.exfs, ok.funs, ok.frf⟩
theorem Cx.Ok.unwish {X : Cx} {E : Value → Shared → Prop} (ok : (X.wish E).Ok) : X.Ok :=
  ⟨ok.mod, ok.kind, ok.glob, ok.blt, ok.above, ok.inj, ok.has, ok.cab, ok.hd, ok.frames, ok.stk, ok.exf, ok.bs, ok.bsz, ok.noex, ok.exfs, ok.funs, ok.frf⟩
section
variable {X : Cx} {pins : List (Addr × Obj)} {σ : St} {H : Hp} {s : Shared} {E : Value → Shared → Prop}
theorem Inv.wish (I : Inv X pins σ H s) (E : Value → Shared → Prop) : Inv (X.wish E) pins σ H s := ⟨I.ok.wish E, I.os, I.bare, I.base, I.loc, I.cell, I.free, I.freeC, I.pin, I.hok, I.len⟩
theorem Inv.unwish (I : Inv (X.wish E) pins σ H s) : Inv X pins σ H s := ⟨I.ok.unwish, I.os, I.bare, I.base, I.loc, I.cell, I.free, I.freeC, I.pin, I.hok, I.len⟩
theorem SP.unwish {D : Ends} {f : Flow} {s' : Shared} (h : SP (X.wish E) pins D f s') : SP X pins D f s' := by
  cases f with
  | next => obtain ⟨σ', H', I, q⟩ := h; exact ⟨σ', H', I.unwish, q⟩
  | brk => obtain ⟨σ', H', I, q⟩ := h; exact ⟨σ', H', I.unwish, q⟩
  | cont => obtain ⟨σ', H', I, q⟩ := h; exact ⟨σ', H', I.unwish, q⟩
  | ret u => obtain ⟨v, σ', H', I, r, q⟩ := h; exact ⟨v, σ', H', I.unwish, r, q⟩
theorem PE.nox {e : Expr} {t : TE} (h : PE X.nox e t) : PE X e t := fun pins s σ H Q I hw =>
  wpAny_mono (h pins s σ H Q (I.wish _) hw) (fun _ _ ⟨v, H', I', r, q⟩ => ⟨v, H', I'.unwish, r, q⟩) fun _ _ z => False.elim z
theorem PT.nox {e : Expr} {t : TT} (h : PT X.nox e t) : PT X e t := fun pins s σ H Q I hw =>
  wpAny_mono (h pins s σ H Q (I.wish _) hw) (fun _ _ ⟨H', I', q⟩ => ⟨H', I'.unwish, q⟩) fun _ _ z => False.elim z
theorem PSs.nox {st : List Stmt} {t : TS} (h : PSs X.nox st t) : PSs X st t := fun pins s σ H D I hw =>
  wpAny_mono (h pins s σ H D (I.wish _) hw) (fun _ _ q => q.unwish) fun _ _ z => False.elim z
end
section
variable {X : Cx} {st : Stmt} {rest : List Stmt} {t u : TS} {e : Expr} {te : TE} {pos : Pos}
def tNext : TS := fun D σ H => D.nx σ H
def tSeq (t u : TS) : TS := fun D σ H => t { D with nx := u D } σ H
theorem pss_nil : PSs X [] tNext := fun _ _ σ H _ I h => wpAny_execs_nil ⟨σ, H, I, h⟩
theorem pss_cons (h1 : PS X st t) (h2 : PSs X rest u) : PSs X (st :: rest) (tSeq t u) := by
  intro pins s σ H D I h
  refine wpAny_execs_cons (thn (h1 pins s σ H { D with nx := u D } I h) fun f s1 q => ?_)
  cases f with
  | next =>
    obtain ⟨σ', H', I', q⟩ := q
    exact h2 pins s1 σ' H' D I' q
  | ret v => exact q
  | brk => exact q
  | cont => exact q
theorem pss_one (h1 : PS X st t) : PSs X [st] t := by
  intro pins s σ H D I h
  refine wpAny_execs_cons (thn (h1 pins s σ H D I h) fun f s1 q => ?_)
  cases f with
  | next => exact wpAny_execs_nil q
  | ret v => exact q
  | brk => exact q
  | cont => exact q
def tBreak : TS := fun D σ H => D.bk σ H
def tCont : TS := fun D σ H => D.ct σ H
theorem ps_pass : PS X (.Pass pos) tNext := fun _ _ σ H _ I h => wpAny_Pass ⟨σ, H, I, h⟩
theorem ps_break : PS X (.Break pos) tBreak := fun _ _ σ H _ I h => wpAny_Break ⟨σ, H, I, h⟩
theorem ps_continue : PS X (.Continue pos) tCont := fun _ _ σ H _ I h => wpAny_Continue ⟨σ, H, I, h⟩
theorem Inv.quiet {pins : List (Addr × Obj)} {σ : St} {H : Hp} {s : Shared} (I : Inv X pins σ H s) : interactive X.env = false := by simp [interactive, I.ok.kind]
theorem ps_doc {x j pos pos'} : PS X (.Expr (.Constant (.str x) j pos) pos') tNext := fun _ s σ H _ I h => wpAny_Expr (Calls.Constant_str (show SP X _ _ .next { s with toks := s.toks + 1 } from ⟨σ, H, I.tok _, h⟩)) I.quiet
def tDrop (te : TE) : TS := fun D σ H => te σ H fun _ H1 => D.nx σ H1
theorem ps_expr (he : PE X e te) (hs : swapsWith e none pos.line X.env = pure false := by rfl) : PS X (.Expr e pos) (tDrop te) := by
  intro pins s σ H D I h
  exact wpAny_Expr_any (thn (he pins s σ H _ I h) fun v s1 ⟨x, H1, I1, r1, q1⟩ => ⟨σ, H1, I1, q1⟩) I.quiet hs
def tRet (te : TE) : TS := fun D σ H => te σ H D.rt
theorem ps_ret (he : PE X e te) : PS X (.Return (some e) pos) (tRet te) := by
  intro pins s σ H D I h
  exact wpAny_Return_some (thn (he pins s σ H _ I h) fun v s1 ⟨x, H1, I1, r1, q1⟩ => ⟨x, σ, H1, I1, r1, q1⟩)
def tRetN : TS := fun D _ H => D.rt .non H
theorem ps_retN : PS X (.Return none pos) tRetN := fun _ _ σ H _ I h => wpAny_Return_none ⟨.non, σ, H, I, rfl, h⟩
def tIfS (c : TT) (t u : TS) : TS := fun D σ H => c σ H fun b H1 => if b = true then t D σ H1 else u D σ H1
theorem ps_if {c : Expr} {a b : List Stmt} {tc : TT} (hc : PT X c tc) (ha : PSs X a t) (hb : PSs X b u) : PS X (.If c a b pos) (tIfS tc t u) := by
  intro pins s σ H D I h
  refine wpAny_If (thn (hc pins s σ H _ I h) fun d s1 ⟨H1, I1, q1⟩ => ?_)
  cases d with
  | true => exact ha pins s1 σ H1 D I1 q1
  | false => exact hb pins s1 σ H1 D I1 q1
def tNever : TS := fun _ _ _ => False
theorem ps_never : PS X st tNever := fun _ _ _ _ _ _ h => h.elim
theorem pss_never {sts : List Stmt} : PSs X sts tNever := fun _ _ _ _ _ _ h => h.elim
end
abbrev TG := V → St → Hp → (St → Hp → Prop) → Prop
abbrev TGs := List V → St → Hp → (St → Hp → Prop) → Prop
def PG (X : Cx) (target : Expr) (t : TG) : Prop :=
  ∀ (pins : List (Addr × Obj)) (s : Shared) (σ : St) (H : Hp) (v : V) (u : Value) (Q : St → Hp → Prop), Inv X pins σ H s → RelV v u → t v σ H Q →
    wpAny (model X.prog X.w) X.A (assign target X.env u) (fun _ s' => ∃ σ' H', Inv X pins σ' H' s' ∧ Q σ' H') X.xe s
def PGs (X : Cx) (ts : List Expr) (t : TGs) : Prop :=
  ∀ (pins : List (Addr × Obj)) (s : Shared) (σ : St) (H : Hp) (vs : List V) (us : List Value) (Q : St → Hp → Prop), Inv X pins σ H s → Vals vs us → t vs σ H Q →
    wpAny (model X.prog X.w) X.A (assignInOrder ((assignEach ts X.env).map (·.2)) us) (fun _ s' => ∃ σ' H', Inv X pins σ' H' s' ∧ Q σ' H') X.xe s
abbrev TSet := V → V → V → Hp → (Hp → Prop) → Prop
def PSet (X : Cx) (t : TSet) : Prop :=
  ∀ (pins : List (Addr × Obj)) (s : Shared) (σ : St) (H : Hp) (o i v : V) (ov iv u : Value) (Q : Hp → Prop), Inv X pins σ H s → RelV o ov → RelV i iv → RelV v u → t o i v H Q →
    wpAny (model X.prog X.w) X.A (setItem ov iv u) (fun _ s' => ∃ H', Inv X pins σ H' s' ∧ Q H') X.xe s
abbrev TIp := V → V → Hp → VK → Prop
def PIp (X : Cx) (op : Operator) (t : TIp) : Prop :=
  ∀ (pins : List (Addr × Obj)) (s : Shared) (σ : St) (H : Hp) (x y : V) (v u : Value) (Q : VK), Inv X pins σ H s → RelV x v → RelV y u → t x y H Q →
    wpAny (model X.prog X.w) X.A (inplaceOp op v u) (EP X pins σ Q) X.xe s
section
variable {X : Cx} {pos : Pos}
def gName (i : Nat) : TG := fun v σ H Q => Q (σ.set i (some v)) H
theorem pg_name {i : Nat} {x : Str} (hN : X.N.Nodup) (hi : X.N[i]? = some x) (hx : Loc X.env.scope x) (hf : X.fn x = true ∨ X.env.scope.names.lookup x = some .local := by first | exact .inl rfl | exact .inr rfl | assumption) : PG X (.Name x pos) (gName i) := by
  intro pins s σ H v u Q I r h
  exact wpAny_assign_Name (store_ok I hN hi hx r (fun s' I' => ⟨_, H, I', h⟩) hf)
def gNil : TGs := fun vs σ H Q => vs = [] ∧ Q σ H
def gCons (t : TG) (u : TGs) : TGs := fun vs σ H Q => ∃ v r, vs = v :: r ∧ t v σ H fun σ' H' => u r σ' H' Q
theorem pgs_nil : PGs X [] gNil := by
  intro pins s σ H vs us Q I r h
  obtain ⟨e, h⟩ := h
  subst e
  cases r
  exact assignInOrder_nil ⟨σ, H, I, h⟩
theorem pgs_cons {e : Expr} {es : List Expr} {t : TG} {u : TGs} (h1 : PG X e t) (h2 : PGs X es u)
    (hs : (assignEach (e :: es) X.env).map (·.2) = assign e X.env :: (assignEach es X.env).map (·.2) := by rfl) : PGs X (e :: es) (gCons t u) := by
  intro pins s σ H vs us Q I r h
  obtain ⟨v, vr, e1, h⟩ := h
  subst e1
  cases r with
  | cons r rr =>
    rw [hs]
    refine assignInOrder_cons (thn (h1 pins s σ H _ _ _ I r h) fun _ s1 ⟨σ1, H1, I1, q1⟩ => ?_)
    exact h2 pins s1 σ1 H1 _ _ Q I1 rr q1
def gTup (K : PySem.W.Frag) (n : Nat) (t : TGs) : TG := fun v σ H Q => ∃ a xs, v = .ref a ∧ SqT K H a xs ∧ xs.length = n ∧ t xs σ H Q
theorem pg_tup {es : List Expr} {k : Nat} {t : TGs} {n : Nat} (hc : X.calm = true) (h : PGs X es t)
    (hn : (assignEach es X.env).length = n := by rfl) (hst : (assignEach es X.env).findIdx? (·.1) = none := by rfl) : PG X (.Tuple es k pos) (gTup X.K n t) := by
  intro pins s σ H v u Q I r hw
  obtain ⟨a, xs, e1, hq, hl, hw⟩ := hw
  subst e1
  cases r
  obtain ⟨its, rv, ht, hz⟩ := I.tuple hq
  refine assign_Tuple_tuple (I.ok.hd hc) ht (by simp [hn, ← hl, rv.length]) hst fun h' hx => ?_
  have I1 : Inv X pins σ H { s with heap := h' } := I.kept (t' := s.toks) fun b o e => hx b o (Nat.ne_of_lt (Heap.lt_size e)) e
  exact h pins _ σ H xs _ Q I1 (by simpa using rv) hw
def gSub (to ti : TE) (t : TSet) : TG := fun v σ H Q => to σ H fun o H1 => ti σ H1 fun i H2 => t o i v H2 fun H3 => Q σ H3
theorem pg_sub {o i : Expr} {to ti : TE} {t : TSet} (ho : PE X o to) (hi : PE X i ti) (hs : PSet X t)
    (ha : ∀ v, assign (.Subscript o i pos) X.env v = (do
      let ov ← holding [v] (eval o X.env)
      let iv ← holding [v, ov] (eval i X.env)
      standAt pos
      holding [v, ov, iv] (setItem ov iv v)
      release [v, ov, iv] []) := by intro _; rfl) : PG X (.Subscript o i pos) (gSub to ti t) := by
  intro pins s σ H v u Q I r h
  rw [ha]
  refine wpAny_bind (wpAny_holding (thn (ho pins s σ H _ I h) fun ov s1 ⟨x, H1, I1, r1, q1⟩ => ?_))
  refine wpAny_bind (wpAny_holding (thn (hi pins s1 σ H1 _ I1 q1) fun iv s2 ⟨y, H2, I2, r2, q2⟩ => ?_))
  refine wpAny_bind (wpAny_standAt (wpAny_bind (wpAny_holding (thn (hs pins s2 σ H2 x y v ov iv u _ I2 r1 r2 r q2) fun _ s3 ⟨H3, I3, q3⟩ => ?_))))
  exact wpAny_release ⟨σ, H3, I3, q3⟩
def tAsg (te : TE) (g : TG) : TS := fun D σ H => te σ H fun x H1 => g x σ H1 D.nx
theorem ps_asg {tg e : Expr} {te : TE} {g : TG} (he : PE X e te) (hg : PG X tg g) (hs : swapsWithSole [tg] e pos.line X.env = pure false := by rfl) (hw : swappedStores [tg] e X.env = pure none := by rfl)
    (h1 : (assignEach [tg] X.env).map (·.2) = [assign tg X.env] := by rfl) : PS X (.Assign [tg] e pos) (tAsg te g) := by
  intro pins s σ H D I h
  refine wpAny_Assign_stores (thn (he pins s σ H _ I h) fun v s1 ⟨x, H1, I1, r1, q1⟩ => ?_) hs hw
  rw [h1]
  exact thn (hg pins s1 σ H1 x v _ I1 r1 q1) fun _ s2 q => q
theorem ps_set {i : Nat} {x : Str} {e : Expr} {te : TE} {pos' : Pos} (hN : X.N.Nodup) (hi : X.N[i]? = some x) (hx : Loc X.env.scope x) (he : PE X e te) (hs : swapsWith e (some (.Name x pos')) pos.line X.env = pure false := by rfl) (hf : X.fn x = true ∨ X.env.scope.names.lookup x = some .local := by first | exact .inl rfl | exact .inr rfl | assumption) :
    PS X (.Assign [.Name x pos'] e pos) (tAsg te (gName i)) := by
  intro pins s σ H D I h
  refine wpAny_Assign_Name (thn (he pins s σ H _ I h) fun v s1 ⟨y, H1, I1, r1, q1⟩ => ?_) hs
  exact store_ok I1 hN hi hx r1 (fun s2 I2 => ⟨_, H1, I2, q1⟩) hf
def tPar (i j : Nat) (ta : TA) : TS := fun D σ H => ta σ H fun vs H1 => ∃ v w, vs = [v, w] ∧ D.nx ((σ.set i (some v)).set j (some w)) H1
theorem ps_par {i j : Nat} {x y : Str} {a b : Expr} {ta : TA} {px py pt : Pos} {kt k2 pt2} (hc : X.calm = true) (hN : X.N.Nodup) (hi : X.N[i]? = some x) (hj : X.N[j]? = some y) (hij : i ≠ j)
    (hx : X.env.scope.names.lookup x = some .local) (hy : X.env.scope.names.lookup y = some .local) (ha : PA X [a, b] ta)
    (hw : swappedStores [.Tuple [.Name x px, .Name y py] kt pt] (.Tuple [a, b] k2 pt2) X.env = pure (some [x, y]))
    (hs : swapsWithSole [.Tuple [.Name x px, .Name y py] kt pt] (.Tuple [a, b] k2 pt2) pos.line X.env = pure false := by rfl) :
    PS X (.Assign [.Tuple [.Name x px, .Name y py] kt pt] (.Tuple [a, b] k2 pt2) pos) (tPar i j ta) := by
  intro pins s σ H D I h
  rw [exec_Assign_arm]
  refine wpAny_bind (wpAny_standAt ?_)
  rw [hs]
  refine wpAny_bind (wpAny_pure ?_)
  rw [if_neg (by decide)]
  refine wpAny_bind (Tuple_ (thn (ha _ pins s σ H _ I h) fun us s1 ⟨vs, H1, I1, r1, q1⟩ => ?_))
  obtain ⟨v, w, e1, q1⟩ := q1
  subst e1
  obtain ⟨u1, u2, rfl, rv, rw'⟩ : ∃ u1 u2, us = [u1, u2] ∧ RelV v u1 ∧ RelV w u2 := by
    cases r1 with
    | cons p q =>
      cases q with
      | cons p' q' =>
        cases q'
        exact ⟨_, _, rfl, p, p'⟩
  refine wpAny_newObj_type ?_ (by show 2 ≤ sizeLine; decide)
  have I2 : Inv X pins σ H1 { s1 with heap := s1.heap.push { cls := .type "tuple", data := .seq [u1, u2].toArray } } := I1.kept (t' := s1.toks) fun b o e => Heap.get?_push_of_some _ e
  rw [hw]
  refine wpAny_bind (wpAny_pure ?_)
  show wpAny (model X.prog X.w) X.A (do rule "assign.swapped-stores"; let items ← unpackItems (.ref s1.heap.objs.size) 2 none; assignInOrder [fun v => bindName X.env y v, fun v => bindName X.env x v] items.reverse; pure Flow.next) _ _ _
  refine wpAny_bind (wpAny_rule (wpAny_bind (unpackItems_tuple (items := #[u1, u2]) (I.ok.hd hc) (IsTup.new s1.heap _) fun h' hx' => ?_)))
  have I3 := I2.kept (h' := h') (t' := s1.toks) fun b o e => hx' b o (Nat.ne_of_lt (Heap.lt_size e)) e
  show wpAny _ _ (assignInOrder [fun v => bindName X.env y v, fun v => bindName X.env x v] [u2, u1] >>= fun _ => pure Flow.next) _ _ _
  refine wpAny_bind (assignInOrder_cons (wpAny_bindName (store_ok I3 hN hj (.inl hy) rw' (fun s2 I4 => ?_) (.inr hy))))
  refine assignInOrder_cons (wpAny_bindName (store_ok I4 hN hi (.inl hx) rv (fun s3 I5 => assignInOrder_nil (wpAny_pure ?_)) (.inr hx)))
  rw [List.set_comm _ _ (Ne.symm hij)] at I5
  exact ⟨_, H1, I5, q1⟩
def tAug (i : Nat) (te : TE) (ti : TIp) : TS := fun D σ H => ∃ x, σ[i]? = some (some x) ∧ te σ H fun y H1 => ti x y H1 fun z H2 => D.nx (σ.set i (some z)) H2
theorem ps_aug {i : Nat} {x : Str} {e : Expr} {te : TE} {op : Operator} {ti : TIp} {pos' : Pos} (hN : X.N.Nodup) (hi : X.N[i]? = some x) (hx : Loc X.env.scope x) (he : PE X e te) (ho : PIp X op ti) (hf : X.fn x = true ∨ X.env.scope.names.lookup x = some .local := by first | exact .inl rfl | exact .inr rfl | assumption) :
    PS X (.AugAssign (.Name x pos') op e pos) (tAug i te ti) := by
  intro pins s σ H D I h
  obtain ⟨v, e1, h⟩ := h
  obtain ⟨m, hn, hl⟩ := I.loc
  have vis : Vis X.env.scope x := by rcases hx with k | k; exact .inl k; exact .inr (.inl k)
  obtain ⟨u, r, l⟩ := hl i x v hi e1 vis
  refine wpAny_AugAssign_Name ?_
  have go : wpAny (model X.prog X.w) X.A (eval e X.env) (fun w s₂ => wpAny (model X.prog X.w) X.A (inplaceOp op u w) (fun r s₃ => wpAny (model X.prog X.w) X.A (storeName X.env x r) (fun _ => SP X pins D .next) X.xe s₃) X.xe s₂) X.xe s := by
    refine thn (he pins s σ H _ I h) fun w s1 ⟨y, H1, I1, r1, q1⟩ => ?_
    refine thn (ho pins s1 σ H1 v y u w _ I1 r r1 q1) fun z s2 ⟨zv, H2, I2, r2, q2⟩ => ?_
    exact store_ok I2 hN hi hx r2 (fun s3 I3 => ⟨_, H2, I3, q2⟩) hf
  rcases l with ⟨hk, hm⟩ | ⟨hk, c, hc, hcell⟩
  · exact wpAny_loadName_local I.ok.kind hk hn hm go
  · rcases hk with hk | hk
    · exact wpAny_loadName_cell I.ok.kind hk hc hcell go
    · rcases hx with k | k
      · have : X.env.scope.names.lookup x = some .free := hk
        rw [k] at this; cases this
      · have : X.env.scope.names.lookup x = some .free := hk
        rw [k] at this; cases this
def tAugS (to ti te : TE) (tget : V → V → Hp → VK → Prop) (tip : TIp) (tset : TSet) : TS := fun D σ H => to σ H fun o H1 => ti σ H1 fun i H2 => tget o i H2 fun x H3 => te σ H3 fun y H4 => tip x y H4 fun z H5 => tset o i z H5 fun H6 => D.nx σ H6
def PGet (X : Cx) (t : V → V → Hp → VK → Prop) : Prop :=
  ∀ (pins : List (Addr × Obj)) (s : Shared) (σ : St) (H : Hp) (o i : V) (ov iv : Value) (Q : VK), Inv X pins σ H s → RelV o ov → RelV i iv → t o i H Q →
    wpAny (model X.prog X.w) X.A (getItem ov iv) (EP X pins σ Q) X.xe s
theorem ps_augS {o i e : Expr} {to ti te : TE} {tget : V → V → Hp → VK → Prop} {tip : TIp} {tset : TSet} {op : Operator} {tpos : Pos} (ho : PE X o to) (hi : PE X i ti) (hg : PGet X tget) (he : PE X e te) (hp : PIp X op tip) (hs : PSet X tset)
    (ha : ∀ ov iv new, augStore i ov iv new = (do holding [new, ov, iv] (setItem ov iv new); release [new, ov, iv] []; pure .next) := by intros; rfl) : PS X (.AugAssign (.Subscript o i tpos) op e pos) (tAugS to ti te tget tip tset) := by
  intro pins s σ H D I h
  refine wpAny_AugAssign_SubscriptAny (thn (ho pins s σ H _ I h) fun ov s1 ⟨x1, H1, I1, r1, q1⟩ => ?_) ha
  refine thn (hi pins s1 σ H1 _ I1 q1) fun iv s2 ⟨x2, H2, I2, r2, q2⟩ => ?_
  refine thn (hg pins s2 σ H2 x1 x2 ov iv _ I2 r1 r2 q2) fun old s3 ⟨x3, H3, I3, r3, q3⟩ => ?_
  refine thn (he pins s3 σ H3 _ I3 q3) fun v s4 ⟨x4, H4, I4, r4, q4⟩ => ?_
  refine thn (hp pins s4 σ H4 x3 x4 old v _ I4 r3 r4 q4) fun new s5 ⟨x5, H5, I5, r5, q5⟩ => ?_
  exact thn (hs pins s5 σ H5 x1 x2 x5 ov iv new _ I5 r1 r2 r5 q5) fun _ s6 ⟨H6, I6, q6⟩ => ⟨σ, H6, I6, q6⟩
def ipI (f : Int → Int → Int) : TIp := fun x y H Q => ∃ i j, x = .int i ∧ y = .int j ∧ Q (.int (f i j)) H
theorem ip_add : PIp X .Add (ipI fun i j => i + j) := by
  intro pins s σ H x y v u Q I r1 r2 h
  obtain ⟨i, j, e1, e2, q⟩ := h
  subst e1; subst e2
  obtain ⟨t, rfl⟩ := r1
  obtain ⟨t', rfl⟩ := r2
  exact iadd_int ⟨.int _, H, I.tok _, ⟨_, rfl⟩, q⟩
theorem ip_sub : PIp X .Sub (ipI fun i j => i - j) := by
  intro pins s σ H x y v u Q I r1 r2 h
  obtain ⟨i, j, e1, e2, q⟩ := h
  subst e1; subst e2
  obtain ⟨t, rfl⟩ := r1
  obtain ⟨t', rfl⟩ := r2
  exact isub_int ⟨.int _, H, I.tok _, ⟨_, rfl⟩, q⟩
end
section
variable {X : Cx} {pos : Pos}
def tWhile (c : TT) (tb : TS) : TS := fun D σ H => ∃ W : Nat → St → Hp → Prop, (∃ m, W m σ H) ∧ ∀ m σ H, W m σ H →
  c σ H fun b H1 => if b = true then ∃ N : St → Hp → Prop, (∀ σ' H', N σ' H' → ∃ m', m' < m ∧ W m' σ' H') ∧ tb { D with nx := N, ct := N, bk := D.nx } σ H1 else D.nx σ H1
theorem ps_while {c : Expr} {body : List Stmt} {tc : TT} {tb : TS} (hp : PassesOwn (model X.prog X.w) X.A X.env X.xe) (hc : PT X c tc) (hb : PSs X body tb) : PS X (.While c body [] pos) (tWhile tc tb) := by
  intro pins s σ H D I h
  obtain ⟨W, ⟨m0, w0⟩, turn⟩ := h
  refine wpAny_While (codeAny_whileLoop (fun n s' => ∃ σ' H', Inv X pins σ' H' s' ∧ W n σ' H') ?_ m0 ⟨σ, H, I, w0⟩)
  rintro n s1 ⟨σ1, H1, I1, w1⟩
  refine wpAny_passesOwn hp (thn (hc pins s1 σ1 H1 _ I1 (turn n σ1 H1 w1)) fun b s2 ⟨H2, I2, q2⟩ => ?_)
  cases b with
  | true =>
    obtain ⟨N, hN, q2⟩ := q2
    rw [if_pos rfl]
    refine wpAny_passesOwn hp (thn (hb pins s2 σ1 H2 _ I2 q2) fun f s3 q3 => ?_)
    cases f with
    | next =>
      obtain ⟨σ3, H3, I3, n3⟩ := q3
      obtain ⟨m', hm, w3⟩ := hN σ3 H3 n3
      exact ⟨m', hm, σ3, H3, I3, w3⟩
    | cont =>
      obtain ⟨σ3, H3, I3, n3⟩ := q3
      obtain ⟨m', hm, w3⟩ := hN σ3 H3 n3
      exact ⟨m', hm, σ3, H3, I3, w3⟩
    | brk => exact q3
    | ret v => exact q3
  | false =>
    rw [if_neg Bool.false_ne_true]
    exact wpAny_execs_nil ⟨σ1, H2, I2, q2⟩
end
structure It where
  go : Nat → Hp → Prop
  yld : Nat → Hp → V → Hp → Prop
  stop : Nat → Hp → Prop
def FpOk (X : Cx) (pins : List (Addr × Obj)) (H : Hp) (b : Addr) : Prop :=
  H b = none ∧ b ≠ X.env.locals ∧ b ∉ X.fs ∧ (b ∈ X.ex ∨ X.s₀.heap.objs.size ≤ b) ∧ (∀ x c, X.env.cells.lookup x = some c → c ≠ b) ∧ ∀ p ∈ X.pn ++ pins, p.1 ≠ b
theorem Inv.fpOk {X : Cx} {pins : List (Addr × Obj)} {σ : St} {H H' : Hp} {s : Shared} {b : Addr} (I : Inv X pins σ H s) (hb : s.heap.objs.size ≤ b) (hn : H' b = none) : FpOk X pins H' b := by
  refine ⟨hn, Nat.ne_of_gt (Nat.lt_of_lt_of_le I.lt hb), I.nofs hb, .inr (Nat.le_trans I.sz hb), fun x c e z => ?_, fun p hp z => ?_⟩
  · obtain ⟨v, q⟩ := I.cell x c e
    exact absurd (Nat.lt_of_lt_of_le q.lt (by rw [z]; exact hb)) (Nat.lt_irrefl _)
  · exact absurd (Nat.lt_of_lt_of_le (Heap.lt_size (I.pin p hp).1) (by rw [z]; exact hb)) (Nat.lt_irrefl _)
structure Turn (P : Program) (w : World) (K : PySem.W.Frag) (tg : Expr) (J : It) (fp : List Addr) (it : Addr) (tn : Nat → Heap → Prop) : Prop where
  mem : it ∈ fp
  obj : ∀ i h, tn i h → ∀ b ∈ fp, ∃ o, h.get? b = some o ∧ ∀ v, o.data ≠ .cell v
  keep : ∀ i h h', tn i h → (∀ b ∈ fp, ∀ o, h.get? b = some o → h'.get? b = some o) → tn i h'
  item : ∀ (X : Cx), X.prog = P → X.w = w → X.K = K → X.calm = true → ∀ (i : Nat) (pins : List (Addr × Obj)) (s : Shared) (σ : St) (H : Hp) (E : Value → Shared → Prop), Inv X pins σ H s → (∀ b ∈ fp, FpOk X pins H b) → tn i s.heap → J.go i H →
    wpAny (model P w) X.A (pyNext (.ref it)) (fun r s1 => ∃ u, r = some u ∧
      wpAny (model P w) X.A (letOwnedTupleGo tg (.ref it) u) (fun _ s2 => ∃ x H', Inv X pins σ H' s2 ∧ RelV x u ∧ J.yld i H x H' ∧ tn (i + 1) s2.heap ∧ ∀ b ∈ fp, H' b = none) E s1) E s
  done : ∀ (X : Cx), X.prog = P → X.w = w → X.K = K → X.calm = true → ∀ (i : Nat) (pins : List (Addr × Obj)) (s : Shared) (σ : St) (H : Hp) (E : Value → Shared → Prop), Inv X pins σ H s → (∀ b ∈ fp, FpOk X pins H b) → tn i s.heap → J.stop i H →
    wpAny (model P w) X.A (pyNext (.ref it)) (fun r s1 => r = none ∧ Inv X pins σ H s1) E s
  self : ∀ (A : Around) (i : Nat) (s : Shared) (Q : Value → Shared → Prop) (E : Value → Shared → Prop), tn i s.heap → Q (.ref it) s → wpAny (model P w) A (pyIter (.ref it)) Q E s
abbrev TI := St → Hp → (It → Hp → Prop) → Prop
def PIE (X : Cx) (pins : List (Addr × Obj)) (σ : St) (tg : Expr) (R : It → Hp → Prop) (itv : Value) (s2 : Shared) : Prop :=
  ∃ (it : Addr) (fp : List Addr) (tn : Nat → Heap → Prop) (J : It) (H' : Hp), itv = .ref it ∧ Inv X pins σ H' s2 ∧ Turn X.prog X.w X.K tg J fp it tn ∧ tn 0 s2.heap ∧ (∀ b ∈ fp, FpOk X pins H' b) ∧ R J H'
def PI (X : Cx) (tg iter : Expr) (wi : TI) : Prop :=
  ∀ (pins : List (Addr × Obj)) (s : Shared) (σ : St) (H : Hp) (R : It → Hp → Prop), Inv X pins σ H s → wi σ H R →
    wpAny (model X.prog X.w) X.A (eval iter X.env) (fun v s1 => wpAny (model X.prog X.w) X.A (pyIter v) (PIE X pins σ tg R) X.xe s1) X.xe s
theorem go_of {M : Model} {A : Around} {E : Value → Shared → Prop} {s : Shared} {tg : Expr} {it : Addr} {u : Value} {o : Obj} {n : String} {vs : Array Value} {Q : Unit → Shared → Prop} (ho : s.heap.get? it = some o) (hc : o.cls = .type n) (hd : o.data = .fields vs)
    (hn : ["enumerate", "zip", "dict_itemiterator", "dict_reverseitemiterator", "odict_iterator", "itertools.zip_longest", "itertools.pairwise"].contains n = false) (hQ : Q () s) : wpAny M A (letOwnedTupleGo tg (.ref it) u) Q E s := by
  unfold letOwnedTupleGo
  cases tg <;> first
    | exact wpAny_pure hQ
    | (cases u <;> first
        | exact wpAny_pure hQ
        | (refine wpAny_bind (wpAny_load ho ?_)
           rw [hc, hd]
           show wpAny M A (if (["enumerate", "zip", "dict_itemiterator", "dict_reverseitemiterator", "odict_iterator", "itertools.zip_longest", "itertools.pairwise"].contains n && vs[0]? == some (rawInt _)) = true then _ else _) Q E s
           rw [if_neg (by intro h; rw [hn, Bool.false_and] at h; cases h)]
           exact wpAny_pure hQ))
def Itl (K : PySem.W.Frag) (a : Addr) : It :=
  ⟨fun i H => ∃ xs x, SqL K H a xs ∧ xs[i]? = some x, fun i H x H' => H' = H ∧ ∀ xs, SqL K H a xs → xs[i]? = some x, fun i H => ∃ xs, SqL K H a xs ∧ xs.length ≤ i⟩
def Itt (K : PySem.W.Frag) (a : Addr) : It :=
  ⟨fun i H => ∃ xs x, SqT K H a xs ∧ xs[i]? = some x, fun i H x H' => H' = H ∧ ∀ xs, SqT K H a xs → xs[i]? = some x, fun i H => ∃ xs, SqT K H a xs ∧ xs.length ≤ i⟩
def Itr (lo : Int) (n : Nat) : It := ⟨fun i _ => i < n, fun i H x H' => H' = H ∧ x = .int (lo + i), fun i _ => n ≤ i⟩
theorem turn_list {P : Program} {w : World} {K : PySem.W.Frag} {tg : Expr} (a it : Addr) : Turn P w K tg (Itl K a) [it] it (fun i h => h.IsListIter it a i) where
  mem := by simp
  obj := fun i h st b hb => by
    have e : b = it := by simpa using hb
    subst e
    obtain ⟨o, e, c, d⟩ := st
    exact ⟨o, e, fun v z => by rw [d] at z; cases z⟩
  keep := fun i h h' st k => st.at fun o e => k it (by simp) o e
  item := by
    intro X hP hw hK hc i pins s σ H E I hf st hg
    subst hP hw hK
    obtain ⟨xs, x, hq, hx⟩ := hg
    obtain ⟨its, rv, p, hz⟩ := I.list hq
    obtain ⟨u, hu, ru⟩ := rv.get hx
    obtain ⟨f0, f1, f2, f3, f4, f5⟩ := hf it (by simp)
    refine wpAny_pyNext_list_item st p.isList (x := u) (by simpa using hu) fun h' st' sb => ?_
    have I1 : Inv X pins σ H { s with heap := h' } := I.turned (t' := s.toks) (fun b o hb e => (sb.2 b hb).trans e) f0 f1 f3 f4 f5
    obtain ⟨o, e, c, d⟩ := id st'
    exact ⟨u, rfl, go_of (s := { s with heap := h' }) e c d (by decide) ⟨x, H, I1, ru, ⟨rfl, fun ys hy => by rw [I.list_inj hy hq]; exact hx⟩, st', fun b hb => (hf b hb).1⟩⟩
  done := by
    intro X hP hw hK hc i pins s σ H E I hf st hg
    subst hP hw hK
    obtain ⟨xs, hq, hx⟩ := hg
    obtain ⟨its, rv, p, hz⟩ := I.list hq
    obtain ⟨f0, f1, f2, f3, f4, f5⟩ := hf it (by simp)
    have hl := rv.length
    exact wpAny_pyNext_list_end (I.ok.hd hc) st p.isList (by simp; omega) fun h' eb => ⟨rfl, I.turned (t' := s.toks) (fun b o hb e => eb b o hb e) f0 f1 f3 f4 f5⟩
  self := fun _ _ _ _ _ st h => wpAny_pyIter_listiter st h
theorem turn_tuple {P : Program} {w : World} {K : PySem.W.Frag} {tg : Expr} (a it : Addr) : Turn P w K tg (Itt K a) [it] it (fun i h => h.IsTupleIter it a i) where
  mem := by simp
  obj := fun i h st b hb => by
    have e : b = it := by simpa using hb
    subst e
    obtain ⟨o, e, c, d⟩ := st
    exact ⟨o, e, fun v z => by rw [d] at z; cases z⟩
  keep := fun i h h' st k => st.at fun o e => k it (by simp) o e
  item := by
    intro X hP hw hK hc i pins s σ H E I hf st hg
    subst hP hw hK
    obtain ⟨xs, x, hq, hx⟩ := hg
    obtain ⟨its, rv, p, hz⟩ := I.tuple hq
    obtain ⟨u, hu, ru⟩ := rv.get hx
    obtain ⟨f0, f1, f2, f3, f4, f5⟩ := hf it (by simp)
    refine wpAny_pyNext_tuple_item st (show s.heap.IsTuple a its.toArray from p) (x := u) (by simpa using hu) fun h' st' sb => ?_
    have I1 : Inv X pins σ H { s with heap := h' } := I.turned (t' := s.toks) (fun b o hb e => (sb.2 b hb).trans e) f0 f1 f3 f4 f5
    obtain ⟨o, e, c, d⟩ := id st'
    exact ⟨u, rfl, go_of (s := { s with heap := h' }) e c d (by decide) ⟨x, H, I1, ru, ⟨rfl, fun ys hy => by rw [I.tuple_inj hy hq]; exact hx⟩, st', fun b hb => (hf b hb).1⟩⟩
  done := by
    intro X hP hw hK hc i pins s σ H E I hf st hg
    subst hP hw hK
    obtain ⟨xs, hq, hx⟩ := hg
    obtain ⟨its, rv, p, hz⟩ := I.tuple hq
    obtain ⟨f0, f1, f2, f3, f4, f5⟩ := hf it (by simp)
    have hl := rv.length
    exact wpAny_pyNext_tuple_end (I.ok.hd hc) st (show s.heap.IsTuple a its.toArray from p) (by simp; omega) fun h' eb => ⟨rfl, I.turned (t' := s.toks) (fun b o hb e => eb b o hb e) f0 f1 f3 f4 f5⟩
  self := fun _ _ _ _ _ st h => wpAny_pyIter_tupleiter st h
theorem turn_range {P : Program} {w : World} {K : PySem.W.Frag} {tg : Expr} (it : Addr) (lo : Int) (n : Nat) : Turn P w K tg (Itr lo n) [it] it (fun i h => IsRangeIter h it (lo + (i : Nat) * 1) ((n : Int) - (i : Nat)) 1) where
  mem := by simp
  obj := fun i h st b hb => by
    have e : b = it := by simpa using hb
    subst e
    exact ⟨_, st, fun v z => by
      have z' : Data.fields _ = Data.cell v := z
      cases z'⟩
  keep := fun i h h' st k => k it (by simp) _ st
  item := by
    intro X hP hw hK hc i pins s σ H E I hf st hg
    subst hP hw hK
    obtain ⟨f0, f1, f2, f3, f4, f5⟩ := hf it (by simp)
    have W := Walks.range (prog := X.prog) (w := X.w) (I.ok.hd hc) it lo 1 n
    refine W.item i s _ _ hg st fun v h' tk hv st' kk => ?_
    obtain ⟨t, rfl⟩ := hv
    have I1 : Inv X pins σ H { s with heap := h', toks := tk } := I.turned (fun b o hb e => kk b o (by simpa using hb) e) f0 f1 f3 f4 f5
    refine ⟨_, rfl, go_of (s := { s with heap := h', toks := tk }) (n := "range_iterator") st' rfl rfl (by decide) ⟨.int (lo + i), H, I1, ⟨t, ?_⟩, ⟨rfl, rfl⟩, st', fun b hb => (hf b hb).1⟩⟩
    rw [Int.mul_one]
  done := by
    intro X hP hw hK hc i pins s σ H E I hf st hg
    subst hP hw hK
    obtain ⟨f0, f1, f2, f3, f4, f5⟩ := hf it (by simp)
    exact wpAny_pyNext_range_end (I.ok.hd hc) st (by have : n ≤ i := hg; omega) fun h' eb => ⟨rfl, I.turned (t' := s.toks) (fun b o hb e => eb b o hb e) f0 f1 f3 f4 f5⟩
  self := fun _ _ _ _ _ st h => wpAny_pyIter_rangeiter st h
end L2
namespace L2
open PySem PySem.Spec PyProof.Rows
section
variable {X : Cx} {tg : Expr}
def iList (K : PySem.W.Frag) (tl : TE) : TI := fun σ H R => tl σ H fun x H1 => ∃ a, x = .ref a ∧ (∃ xs, SqL K H1 a xs) ∧ R (Itl K a) H1
def iTup (K : PySem.W.Frag) (tl : TE) : TI := fun σ H R => tl σ H fun x H1 => ∃ a, x = .ref a ∧ (∃ xs, SqT K H1 a xs) ∧ R (Itt K a) H1
theorem pi_list {l : Expr} {tl : TE} (hl : PE X l tl) : PI X tg l (iList X.K tl) := by
  intro pins s σ H R I h
  refine thn (hl pins s σ H _ I h) fun v s1 ⟨x, H1, I1, r1, q1⟩ => ?_
  obtain ⟨a, e, ⟨xs, hq⟩, q⟩ := q1
  subst e
  cases r1
  obtain ⟨its, rv, p, hz⟩ := I1.list hq
  refine wpAny_pyIter_list p.isList ?_
  refine ⟨s1.heap.objs.size, [s1.heap.objs.size], _, _, H1, rfl, I1.kept (t' := s1.toks) fun b o e => Heap.get?_push_of_some _ e, turn_list a _, ⟨_, Heap.get?_push_size _ rfl, rfl, rfl⟩, fun b hb => ?_, q⟩
  have e : b = s1.heap.objs.size := by simpa using hb
  subst e
  exact I1.fpOk (Nat.le_refl _) (I1.hok.fresh (Nat.le_refl _))
theorem pi_tup {l : Expr} {tl : TE} (hl : PE X l tl) : PI X tg l (iTup X.K tl) := by
  intro pins s σ H R I h
  refine thn (hl pins s σ H _ I h) fun v s1 ⟨x, H1, I1, r1, q1⟩ => ?_
  obtain ⟨a, e, ⟨xs, hq⟩, q⟩ := q1
  subst e
  cases r1
  obtain ⟨its, rv, p, hz⟩ := I1.tuple hq
  refine wpAny_pyIter_tuple (show s1.heap.IsTuple a its.toArray from p) ?_
  refine ⟨s1.heap.objs.size, [s1.heap.objs.size], _, _, H1, rfl, I1.kept (t' := s1.toks) fun b o e => Heap.get?_push_of_some _ e, turn_tuple a _, ⟨_, Heap.get?_push_size _ rfl, rfl, rfl⟩, fun b hb => ?_, q⟩
  have e : b = s1.heap.objs.size := by simpa using hb
  subst e
  exact I1.fpOk (Nat.le_refl _) (I1.hok.fresh (Nat.le_refl _))
theorem range_it {pins : List (Addr × Obj)} {σ : St} {H : Hp} {s : Shared} {R : It → Hp → Prop} {E : Value → Shared → Prop} {lo hi : Int} {t u v : Tok} {tk : Nat} (I : Inv X pins σ H s) (h1 : -(2 ^ 62) ≤ lo) (h2 : lo < 2 ^ 62) (h3 : -(2 ^ 62) ≤ hi) (h4 : hi < 2 ^ 62)
    (q : R (Itr lo (hi - lo).toNat) H) : wpAny (model X.prog X.w) X.A (pyIter (.ref s.heap.objs.size)) (PIE X pins σ tg R) E { s with heap := s.heap.push { cls := .type "range", data := .fields #[.int lo t, .int hi u, .int 1 v] }, toks := tk } := by
  refine wpAny_pyIter_range (IsRange.new ..) (small_one h1 h2 h3 h4) ?_
  have I1 : Inv X pins σ H { s with heap := s.heap.push { cls := .type "range", data := .fields #[.int lo t, .int hi u, .int 1 v] }, toks := tk } := I.kept fun b o e => Heap.get?_push_of_some _ e
  refine ⟨(s.heap.push { cls := .type "range", data := .fields #[.int lo t, .int hi u, .int 1 v] }).objs.size, [(s.heap.push { cls := .type "range", data := .fields #[.int lo t, .int hi u, .int 1 v] }).objs.size], _, _, H, rfl,
    I1.kept (t' := tk) fun b o e => Heap.get?_push_of_some _ e, turn_range _ lo (hi - lo).toNat, ?_, fun b hb => ?_, q⟩
  · have e1 : lo + ((0 : Nat) : Int) * 1 = lo := by simp
    have e2 : (((hi - lo).toNat : Nat) : Int) - ((0 : Nat) : Int) = Builtin.Range.rangeSize lo hi 1 := by rw [rangeSize_one]; split <;> omega
    show IsRangeIter _ _ (lo + ((0 : Nat) : Int) * 1) ((((hi - lo).toNat : Nat) : Int) - ((0 : Nat) : Int)) 1
    rw [e1, e2]
    exact Heap.get?_push_size _ rfl
  · have e : b = (s.heap.push { cls := .type "range", data := .fields #[.int lo t, .int hi u, .int 1 v] }).objs.size := by simpa using hb
    subst e
    exact I1.fpOk (Nat.le_refl _) (I1.hok.fresh (Nat.le_refl _))
def iRng1 (ta : TA) : TI := fun σ H R => ta σ H fun vs H1 => ∃ j : Int, vs = [.int j] ∧ -(2 ^ 62) ≤ j ∧ j < 2 ^ 62 ∧ R (Itr 0 j.toNat) H1
def iRng2 (ta : TA) : TI := fun σ H R => ta σ H fun vs H1 => ∃ i j : Int, vs = [.int i, .int j] ∧ (-(2 ^ 62) ≤ i ∧ i < 2 ^ 62 ∧ -(2 ^ 62) ≤ j ∧ j < 2 ^ 62) ∧ R (Itr i (j - i).toNat) H1
theorem pi_range1 {a : Expr} {ta : TA} {p pos : Pos} (hg : Gl X "range") (hm : X.mg "range" = none) (ha : PA X [a] ta) (hs : starEach [a] X.env = [(false, eval a X.env)] := by rfl) : PI X tg (.Call (.Name "range" p) [a] [] pos) (iRng1 ta) := by
  intro pins s σ H R I h
  refine Call_ (ld_blt I hg hm boot_range (PyProof.Rows.callWith_type1 (thn (ha pos pins s σ H _ I h) fun us s1 ⟨vs, H1, I1, r1, q1⟩ => ?_) hs rfl))
  obtain ⟨j, e, q1, q2, q⟩ := q1
  subst e
  cases r1 with
  | cons r rr =>
    cases rr
    obtain ⟨t, rfl⟩ := r
    exact call_range_1 (range_it I1 (by omega) (by omega) q1 q2 (by simpa using q))
theorem pi_range2 {a b : Expr} {ta : TA} {p pos : Pos} (hg : Gl X "range") (hm : X.mg "range" = none) (ha : PA X [a, b] ta) (hs : starEach [a, b] X.env = [(false, eval a X.env), (false, eval b X.env)] := by rfl) (hs2 : starEach [b] X.env = [(false, eval b X.env)] := by rfl) :
    PI X tg (.Call (.Name "range" p) [a, b] [] pos) (iRng2 ta) := by
  intro pins s σ H R I h
  refine Call_ (ld_blt I hg hm boot_range (PyProof.Rows.callWith_type1 (thn (ha pos pins s σ H _ I h) fun us s1 ⟨vs, H1, I1, r1, q1⟩ => ?_) (by rw [hs, hs2]) (by rw [hs2]; rfl)))
  obtain ⟨i, j, e, ⟨q1, q2, q3, q4⟩, q⟩ := q1
  subst e
  cases r1 with
  | cons r rr =>
    cases rr with
    | cons r' rr =>
      cases rr
      obtain ⟨t, rfl⟩ := r
      obtain ⟨t', rfl⟩ := r'
      exact call_range_2 (range_it I1 q1 q2 q3 q4 q)
def tFor (wi : TI) (g : TG) (tb : TS) : TS := fun D σ H => wi σ H fun J H1 => ∃ W : Nat → Nat → St → Hp → Prop, (∃ m, W 0 m σ H1) ∧ ∀ i m σ H, W i m σ H →
  (J.stop i H ∧ D.nx σ H) ∨ (J.go i H ∧ ∃ N : St → Hp → Prop, (∀ σ' H', N σ' H' → ∃ m', m' < m ∧ W (i + 1) m' σ' H') ∧ ∀ x H', J.yld i H x H' → g x σ H' fun σ2 H2 => tb { D with nx := N, ct := N, bk := D.nx } σ2 H2)
def pinsAt (fp : List Addr) (h : Heap) : List (Addr × Obj) := fp.filterMap fun b => (h.get? b).map fun o => (b, o)
theorem mem_pinsAt {fp : List Addr} {h : Heap} {b : Addr} {o : Obj} (hb : b ∈ fp) (e : h.get? b = some o) : (b, o) ∈ pinsAt fp h := List.mem_filterMap.mpr ⟨b, hb, by rw [e]; rfl⟩
theorem of_pinsAt {fp : List Addr} {h : Heap} {p : Addr × Obj} (hp : p ∈ pinsAt fp h) : p.1 ∈ fp ∧ h.get? p.1 = some p.2 := by
  obtain ⟨b, hb, e⟩ := List.mem_filterMap.mp hp
  cases q : h.get? b with
  | none => rw [q] at e; cases e
  | some o =>
    rw [q] at e
    have e' : (b, o) = p := Option.some.inj e
    subst e'
    exact ⟨hb, q⟩
theorem Inv.pinned {pins : List (Addr × Obj)} {σ : St} {H : Hp} {s : Shared} {fp : List Addr} (I : Inv X pins σ H s) (hf : ∀ b ∈ fp, FpOk X pins H b) (ho : ∀ b ∈ fp, ∃ o, s.heap.get? b = some o ∧ ∀ v, o.data ≠ .cell v) : Inv X (pins ++ pinsAt fp s.heap) σ H s :=
  I.pins_of fun p hp => (List.mem_append.mp hp).elim (fun z => I.pin p (List.mem_append_right _ z)) fun z => by
    obtain ⟨hb, e⟩ := of_pinsAt z
    obtain ⟨f0, f1, f2, _⟩ := hf p.1 hb
    obtain ⟨o, e', d⟩ := ho p.1 hb
    rw [e] at e'; cases e'
    exact ⟨e, f0, f1, f2, d⟩
theorem Inv.unpinned {pins pl : List (Addr × Obj)} {σ : St} {H : Hp} {s : Shared} (I : Inv X (pins ++ pl) σ H s) : Inv X pins σ H s := I.pins_of fun p hp => I.pin p (List.mem_append_right _ (List.mem_append_left _ hp))
theorem ps_for {iter : Expr} {body : List Stmt} {wi : TI} {g : TG} {tb : TS} {pos : Pos} (hp : PassesOwn (model X.prog X.w) X.A X.env X.xe) (hc : X.calm = true) (hi : PI X tg iter wi) (hg : PG X tg g) (hb : PSs X body tb)
    (hs : ∀ x, foldedSetIterable iter X.env x = pure x := by intro _; rfl) : PS X (.For tg iter body [] pos) (tFor wi g tb) := by
  intro pins s σ H D I h
  refine wpAny_For (thn (hi pins s σ H _ I h) fun v s1 h1 => thn h1 fun itv s2 h2 => ?_) hs
  obtain ⟨it, fp, tn, J, H2, e, I2, T, st2, f2, W, ⟨m0, w0⟩, turn⟩ := h2
  subst e
  have stat : ∀ {H' : Hp}, (∀ b ∈ fp, H' b = none) → ∀ b ∈ fp, FpOk X pins H' b := fun hn b hb => ⟨hn b hb, (f2 b hb).2⟩
  refine codeAny_forLoop_any (fun n s' => ∃ i σ' H', Inv X pins σ' H' s' ∧ tn i s'.heap ∧ (∀ b ∈ fp, H' b = none) ∧ W i n σ' H') ?_ m0 ⟨0, σ, H2, I2, st2, fun b hb => (f2 b hb).1, w0⟩
  rintro n s3 ⟨i, σ3, H3, I3, st3, fr3, w3⟩
  rcases turn i n σ3 H3 w3 with ⟨stop, qn⟩ | ⟨go, N, hN, step⟩
  · refine wpAny_passesOwn hp (thn (T.done X rfl rfl rfl hc i pins s3 σ3 H3 X.xe I3 (stat fr3) st3 stop) fun r s4 ⟨hr, I4⟩ => ?_)
    subst hr
    exact wpAny_execs_nil ⟨σ3, H3, I4, qn⟩
  · refine wpAny_passesOwn hp (thn (T.item X rfl rfl rfl hc i pins s3 σ3 H3 X.xe I3 (stat fr3) st3 go) fun r s4 ⟨u, hr, h4⟩ => ?_)
    subst hr
    refine wpAny_passesOwn hp (thn h4 fun _ s5 ⟨x, H5, I5, r5, y5, st5, fr5⟩ => ?_)
    have I5' := I5.pinned (stat fr5) (T.obj _ _ st5)
    refine wpAny_passesOwn hp (thn (hg _ s5 σ3 H5 x u _ I5' r5 (step x H5 y5)) fun _ s6 ⟨σ6, H6, I6, q6⟩ => ?_)
    refine wpAny_passesOwn hp (thn (hb _ s6 σ6 H6 _ I6 q6) fun f s7 q7 => ?_)
    have again : ∀ {σ7 : St} {H7 : Hp}, Inv X (pins ++ pinsAt fp s5.heap) σ7 H7 s7 → N σ7 H7 → ∃ m, m < n ∧ ∃ i σ' H', Inv X pins σ' H' s7 ∧ tn i s7.heap ∧ (∀ b ∈ fp, H' b = none) ∧ W i m σ' H' := fun {σ7 H7} I7 n7 => by
      obtain ⟨m', hm, w7⟩ := hN σ7 H7 n7
      refine ⟨m', hm, i + 1, σ7, H7, I7.unpinned, T.keep _ _ _ st5 fun b hb o e => (I7.pin (b, o) (List.mem_append_right _ (List.mem_append_right _ (mem_pinsAt hb e)))).1, fun b hb => ?_, w7⟩
      obtain ⟨o, e, d⟩ := T.obj _ _ st5 b hb
      exact (I7.pin (b, o) (List.mem_append_right _ (List.mem_append_right _ (mem_pinsAt hb e)))).2.1
    cases f with
    | next => obtain ⟨σ7, H7, I7, n7⟩ := q7; exact again I7 n7
    | cont => obtain ⟨σ7, H7, I7, n7⟩ := q7; exact again I7 n7
    | brk => obtain ⟨σ7, H7, I7, q7⟩ := q7; exact ⟨σ7, H7, I7.unpinned, q7⟩
    | ret v => obtain ⟨x7, σ7, H7, I7, r7, q7⟩ := q7; exact ⟨x7, σ7, H7, I7.unpinned, r7, q7⟩
end
theorem for_list {K : PySem.W.Frag} {a : Addr} {xs : List V} {g : TG} {tb : TS} {D : Ends} {σ : St} {H : Hp} (Pv : Nat → St → Hp → Prop) (h0 : Pv 0 σ H) (hl : ∀ i σ H, i ≤ xs.length → Pv i σ H → SqL K H a xs)
    (hs : ∀ i x σ H, xs[i]? = some x → Pv i σ H → g x σ H fun σ2 H2 => tb { D with nx := Pv (i + 1), ct := Pv (i + 1), bk := D.nx } σ2 H2) (hd : ∀ σ H, Pv xs.length σ H → D.nx σ H) :
    ∃ W : Nat → Nat → St → Hp → Prop, (∃ m, W 0 m σ H) ∧ ∀ i m σ H, W i m σ H →
      ((Itl K a).stop i H ∧ D.nx σ H) ∨ ((Itl K a).go i H ∧ ∃ N : St → Hp → Prop, (∀ σ' H', N σ' H' → ∃ m', m' < m ∧ W (i + 1) m' σ' H') ∧ ∀ x H', (Itl K a).yld i H x H' → g x σ H' fun σ2 H2 => tb { D with nx := N, ct := N, bk := D.nx } σ2 H2) := by
  refine ⟨fun i m σ H => m = xs.length - i ∧ i ≤ xs.length ∧ Pv i σ H, ⟨xs.length, by simp, Nat.zero_le _, h0⟩, ?_⟩
  rintro i m σ H ⟨rfl, hi, p⟩
  have q := hl i σ H hi p
  by_cases hlt : i < xs.length
  · refine .inr ⟨⟨xs, xs[i], q, by simp [hlt]⟩, Pv (i + 1), fun σ' H' p' => ⟨xs.length - (i + 1), by omega, rfl, hlt, p'⟩, fun x H' y => ?_⟩
    obtain ⟨e, y⟩ := y
    subst e
    exact hs i x σ _ (y xs q) p
  · have e : i = xs.length := by omega
    subst e
    exact .inl ⟨⟨xs, q, Nat.le_refl _⟩, hd σ H p⟩
theorem for_tup {K : PySem.W.Frag} {a : Addr} {xs : List V} {g : TG} {tb : TS} {D : Ends} {σ : St} {H : Hp} (Pv : Nat → St → Hp → Prop) (h0 : Pv 0 σ H) (hl : ∀ i σ H, i ≤ xs.length → Pv i σ H → SqT K H a xs)
    (hs : ∀ i x σ H, xs[i]? = some x → Pv i σ H → g x σ H fun σ2 H2 => tb { D with nx := Pv (i + 1), ct := Pv (i + 1), bk := D.nx } σ2 H2) (hd : ∀ σ H, Pv xs.length σ H → D.nx σ H) :
    ∃ W : Nat → Nat → St → Hp → Prop, (∃ m, W 0 m σ H) ∧ ∀ i m σ H, W i m σ H →
      ((Itt K a).stop i H ∧ D.nx σ H) ∨ ((Itt K a).go i H ∧ ∃ N : St → Hp → Prop, (∀ σ' H', N σ' H' → ∃ m', m' < m ∧ W (i + 1) m' σ' H') ∧ ∀ x H', (Itt K a).yld i H x H' → g x σ H' fun σ2 H2 => tb { D with nx := N, ct := N, bk := D.nx } σ2 H2) := by
  refine ⟨fun i m σ H => m = xs.length - i ∧ i ≤ xs.length ∧ Pv i σ H, ⟨xs.length, by simp, Nat.zero_le _, h0⟩, ?_⟩
  rintro i m σ H ⟨rfl, hi, p⟩
  have q := hl i σ H hi p
  by_cases hlt : i < xs.length
  · refine .inr ⟨⟨xs, xs[i], q, by simp [hlt]⟩, Pv (i + 1), fun σ' H' p' => ⟨xs.length - (i + 1), by omega, rfl, hlt, p'⟩, fun x H' y => ?_⟩
    obtain ⟨e, y⟩ := y
    subst e
    exact hs i x σ _ (y xs q) p
  · have e : i = xs.length := by omega
    subst e
    exact .inl ⟨⟨xs, q, Nat.le_refl _⟩, hd σ H p⟩
theorem for_range {lo : Int} {n : Nat} {g : TG} {tb : TS} {D : Ends} {σ : St} {H : Hp} (Pv : Nat → St → Hp → Prop) (h0 : Pv 0 σ H)
    (hs : ∀ i σ H, i < n → Pv i σ H → g (.int (lo + i)) σ H fun σ2 H2 => tb { D with nx := Pv (i + 1), ct := Pv (i + 1), bk := D.nx } σ2 H2) (hd : ∀ σ H, Pv n σ H → D.nx σ H) :
    ∃ W : Nat → Nat → St → Hp → Prop, (∃ m, W 0 m σ H) ∧ ∀ i m σ H, W i m σ H →
      ((Itr lo n).stop i H ∧ D.nx σ H) ∨ ((Itr lo n).go i H ∧ ∃ N : St → Hp → Prop, (∀ σ' H', N σ' H' → ∃ m', m' < m ∧ W (i + 1) m' σ' H') ∧ ∀ x H', (Itr lo n).yld i H x H' → g x σ H' fun σ2 H2 => tb { D with nx := N, ct := N, bk := D.nx } σ2 H2) := by
  refine ⟨fun i m σ H => m = n - i ∧ i ≤ n ∧ Pv i σ H, ⟨n, by simp, Nat.zero_le _, h0⟩, ?_⟩
  rintro i m σ H ⟨rfl, hi, p⟩
  by_cases hlt : i < n
  · refine .inr ⟨hlt, Pv (i + 1), fun σ' H' p' => ⟨n - (i + 1), by omega, rfl, hlt, p'⟩, fun x H' y => ?_⟩
    obtain ⟨e, y⟩ := y
    subst e y
    exact hs i σ _ hlt p
  · have e : i = n := by omega
    subst e
    exact .inl ⟨Nat.le_refl _, hd σ H p⟩
theorem while_by {c : TT} {tb : TS} {D : Ends} {σ : St} {H : Hp} (Pv : St → Hp → Prop) (μ : St → Hp → Nat) (h0 : Pv σ H)
    (hs : ∀ σ H, Pv σ H → c σ H fun b H1 => if b = true then tb { D with nx := fun σ' H' => Pv σ' H' ∧ μ σ' H' < μ σ H, ct := fun σ' H' => Pv σ' H' ∧ μ σ' H' < μ σ H, bk := D.nx } σ H1 else D.nx σ H1)
    (mono : ∀ σ H Q Q', (∀ b H1, Q b H1 → Q' b H1) → c σ H Q → c σ H Q') : tWhile c tb D σ H := by
  refine ⟨fun m σ H => m = μ σ H ∧ Pv σ H, ⟨_, rfl, h0⟩, ?_⟩
  rintro m σ H ⟨rfl, p⟩
  refine mono σ H _ _ (fun b H1 q => ?_) (hs σ H p)
  cases b with
  | true => exact ⟨_, fun σ' H' ⟨p', l⟩ => ⟨_, l, rfl, p'⟩, q⟩
  | false => exact q
end L2
namespace L2
open PySem PySem.Spec PyProof.Rows
abbrev R2 := V → V → Hp → VK → Prop
def OpR (X : Cx) (f : Value → Value → Sem Value) (r : R2) : Prop :=
  ∀ (pins : List (Addr × Obj)) (s : Shared) (σ : St) (H : Hp) (x y : V) (v u : Value) (Q : VK), Inv X pins σ H s → RelV x v → RelV y u → r x y H Q →
    wpAny (model X.prog X.w) X.A (f v u) (EP X pins σ Q) X.xe s
def UnR (X : Cx) (f : Value → Sem Value) (r : V → Hp → VK → Prop) : Prop :=
  ∀ (pins : List (Addr × Obj)) (s : Shared) (σ : St) (H : Hp) (x : V) (v : Value) (Q : VK), Inv X pins σ H s → RelV x v → r x H Q →
    wpAny (model X.prog X.w) X.A (f v) (EP X pins σ Q) X.xe s
def CallR (X : Cx) (f : Value) (r : List V → Hp → VK → Prop) : Prop :=
  ∀ (pins : List (Addr × Obj)) (s : Shared) (σ : St) (H : Hp) (xs : List V) (us : List Value) (Q : VK), Inv X pins σ H s → Vals xs us → r xs H Q →
    wpAny (model X.prog X.w) X.A (call f us) (EP X pins σ Q) X.xe s
def TruR (X : Cx) (r : V → Hp → (Bool → Hp → Prop) → Prop) : Prop :=
  ∀ (pins : List (Addr × Obj)) (s : Shared) (σ : St) (H : Hp) (x : V) (v : Value) (Q : Bool → Hp → Prop), Inv X pins σ H s → RelV x v → r x H Q →
    wpAny (model X.prog X.w) X.A (truthy v) (TP X pins σ Q) X.xe s
def tOp (r : R2) (ta tb : TE) : TE := fun σ H Q => ta σ H fun x H1 => tb σ H1 fun y H2 => r x y H2 Q
def tUn (r : V → Hp → VK → Prop) (ta : TE) : TE := fun σ H Q => ta σ H fun x H1 => r x H1 Q
def rI (C : Int → Int → Prop) (g : Int → Int → V) : R2 := fun x y H Q => ∃ i j, x = .int i ∧ y = .int j ∧ C i j ∧ Q (g i j) H
def rI0 (g : Int → Int → V) : R2 := fun x y H Q => ∃ i j, x = .int i ∧ y = .int j ∧ Q (g i j) H
def rU (g : Int → V) : V → Hp → VK → Prop := fun x H Q => ∃ i, x = .int i ∧ Q (g i) H
section
variable {X : Cx} {a b c : Expr} {ta tb tc : TE} {pos : Pos}
theorem binT (ha : PE X a ta) (hb : PE X b tb) {pins : List (Addr × Obj)} {s : Shared} {σ : St} {H : Hp} {R : V → V → Hp → Prop} (I : Inv X pins σ H s)
    (h : ta σ H fun x H1 => tb σ H1 fun y H2 => R x y H2) {Q : Value → Shared → Prop} {f : Value → Value → Sem Value}
    (hf : ∀ v u s2 x y H2, Inv X pins σ H2 s2 → RelV x v → RelV y u → R x y H2 → wpAny (model X.prog X.w) X.A (f v u) Q X.xe s2) :
    wpAny (model X.prog X.w) X.A (eval a X.env) (fun v s₁ => wpAny (model X.prog X.w) X.A (eval b X.env) (fun u s₂ => wpAny (model X.prog X.w) X.A (f v u) Q X.xe s₂) X.xe s₁) X.xe s := by
  refine thn (ha pins s σ H _ I h) fun v s1 ⟨x, H1, I1, r1, q1⟩ => ?_
  refine thn (hb pins s1 σ H1 _ I1 q1) fun u s2 ⟨y, H2, I2, r2, q2⟩ => ?_
  exact hf v u s2 x y H2 I2 r1 r2 q2
theorem pe_op {op : Operator} {r : R2} (ho : OpR X (binaryOp op) r) (ha : PE X a ta) (hb : PE X b tb) : PE X (.BinOp a op b pos) (tOp r ta tb) := by
  intro pins s σ H Q I h
  exact wpAny_BinOp (binT ha hb I h fun v u s2 x y H2 I2 rx ry q => ho pins s2 σ H2 x y v u Q I2 rx ry q)
theorem pe_un {op : UnaryOp} {r : V → Hp → VK → Prop} (ho : UnR X (unaryOp op) r) (ha : PE X a ta) : PE X (.UnaryOp op a pos) (tUn r ta) := by
  intro pins s σ H Q I h
  exact UnaryOp_ (thn (ha pins s σ H _ I h) fun v s1 ⟨x, H1, I1, r1, q1⟩ => ho pins s1 σ H1 x v Q I1 r1 q1)
theorem augR {op : Operator} {r : R2} (ho : OpR X (inplaceOp op) r) {pins : List (Addr × Obj)} {s : Shared} {σ : St} {H : Hp} {x y : V} {v u : Value} {Q : VK} (I : Inv X pins σ H s)
    (rx : RelV x v) (ry : RelV y u) (q : r x y H Q) : wpAny (model X.prog X.w) X.A (inplaceOp op v u) (EP X pins σ Q) X.xe s := ho pins s σ H x y v u Q I rx ry q
theorem opI {f : Value → Value → Sem Value} {C : Int → Int → Prop} {g : Int → Int → Int}
    (rule : ∀ (i j : Int) (t u : Tok) (s : Shared) (Q : Value → Shared → Prop) (E : Value → Shared → Prop), C i j → Q (.int (g i j) s.toks) { s with toks := s.toks + 1 } → wpAny (model X.prog X.w) X.A (f (.int i t) (.int j u)) Q E s) :
    OpR X f (rI C fun i j => .int (g i j)) := by
  intro pins s σ H x y v u Q I rx ry h
  obtain ⟨i, j, rfl, rfl, hc, q⟩ := h
  obtain ⟨t, rfl⟩ := rx
  obtain ⟨t', rfl⟩ := ry
  exact rule i j t t' s _ _ hc ⟨.int (g i j), H, I.tok _, ⟨_, rfl⟩, q⟩
theorem opI0 {f : Value → Value → Sem Value} {g : Int → Int → Int}
    (rule : ∀ (i j : Int) (t u : Tok) (s : Shared) (Q : Value → Shared → Prop) (E : Value → Shared → Prop), Q (.int (g i j) s.toks) { s with toks := s.toks + 1 } → wpAny (model X.prog X.w) X.A (f (.int i t) (.int j u)) Q E s) :
    OpR X f (rI0 fun i j => .int (g i j)) := by
  intro pins s σ H x y v u Q I rx ry h
  obtain ⟨i, j, rfl, rfl, q⟩ := h
  obtain ⟨t, rfl⟩ := rx
  obtain ⟨t', rfl⟩ := ry
  exact rule i j t t' s _ _ ⟨.int (g i j), H, I.tok _, ⟨_, rfl⟩, q⟩
theorem opB0 {f : Value → Value → Sem Value} {g : Int → Int → Bool}
    (rule : ∀ (i j : Int) (t u : Tok) (s : Shared) (Q : Value → Shared → Prop) (E : Value → Shared → Prop), Q (.bool (g i j)) s → wpAny (model X.prog X.w) X.A (f (.int i t) (.int j u)) Q E s) :
    OpR X f (rI0 fun i j => .bl (g i j)) := by
  intro pins s σ H x y v u Q I rx ry h
  obtain ⟨i, j, rfl, rfl, q⟩ := h
  obtain ⟨t, rfl⟩ := rx
  obtain ⟨t', rfl⟩ := ry
  exact rule i j t t' s _ _ ⟨.bl (g i j), H, I, rfl, q⟩
def CDiv (i j : Int) : Prop := 0 < j ∧ j < 1073741824
def CDivN (i j : Int) : Prop := j ≠ 0 ∧ j.natAbs < 1073741824
def CPow (i j : Int) : Prop := 0 ≤ j ∧ j ≤ 1000000 ∧ i.natAbs < 2 ^ 64
def CMul (i j : Int) : Prop := (-(2 ^ 64) < i ∧ i < 2 ^ 64) ∨ (-(2 ^ 64) < j ∧ j < 2 ^ 64)
theorem CMul.ok {i j : Int} (h : CMul i j) : IntMulOk i j := by
  rcases h with ⟨h1, h2⟩ | ⟨h1, h2⟩
  · exact .of_left (intBits_le_64 h1 h2)
  · exact .of_right (intBits_le_64 h1 h2)
theorem two_pow_nn (k : Nat) : (0 : Int) ≤ 2 ^ k := by
  rw [two_pow_cast]
  exact Int.natCast_nonneg _
theorem op_add : OpR X (binaryOp .Add) (rI0 fun i j => .int (i + j)) := opI0 fun _ _ _ _ _ _ _ q => add_int q
theorem op_sub : OpR X (binaryOp .Sub) (rI0 fun i j => .int (i - j)) := opI0 fun _ _ _ _ _ _ _ q => sub_int q
theorem op_mul : OpR X (binaryOp .Mult) (rI CMul fun i j => .int (i * j)) := opI fun _ _ _ _ _ _ _ hc q => mul_int q hc.ok
theorem op_fdiv : OpR X (binaryOp .FloorDiv) (rI CDiv fun i j => .int (i / j)) := opI fun i j _ _ _ _ _ hc q => by
  have h1 : (0 : Int) < j := hc.1
  have h2 : j < 1073741824 := hc.2
  exact floordiv_int (by omega) (by rw [Int.fdiv_eq_ediv_of_nonneg i (by omega)]; exact q) (.inl (PyProof.noPylong_small (by omega)))
theorem op_fdivN : OpR X (binaryOp .FloorDiv) (rI CDivN fun i j => .int (i.fdiv j)) := opI fun _ _ _ _ _ _ _ hc q => floordiv_int hc.1 q (.inl (PyProof.noPylong_small hc.2))
theorem op_mod : OpR X (binaryOp .Mod) (rI (fun _ j => 0 < j) fun i j => .int (i % j)) := opI fun i j _ _ _ _ _ hc q => by
  have h1 : (0 : Int) < j := hc
  exact mod_int' (by omega) (by rw [Int.fmod_eq_emod_of_nonneg i (by omega)]; exact q)
theorem op_modN : OpR X (binaryOp .Mod) (rI (fun _ j => j ≠ 0) fun i j => .int (i.fmod j)) := opI fun _ _ _ _ _ _ _ hc q => mod_int' hc q
theorem op_pow : OpR X (binaryOp .Pow) (rI CPow fun i j => .int (i ^ j.toNat)) := opI fun _ _ _ _ _ _ _ hc q => pow_int_small hc.1 hc.2.1 hc.2.2 q
theorem op_shl : OpR X (binaryOp .LShift) (rI CPow fun i j => .int (i * 2 ^ j.toNat)) := opI fun _ _ _ _ _ _ _ hc q => lshift_int_small hc.1 hc.2.1 hc.2.2 q
theorem op_shr : OpR X (binaryOp .RShift) (rI (fun _ j => 0 ≤ j) fun i j => .int (i / 2 ^ j.toNat)) := opI fun i j _ _ _ _ _ hc q =>
  rshift_int hc (by rw [Int.fdiv_eq_ediv_of_nonneg i (two_pow_nn _)]; exact q)
theorem op_and : OpR X (binaryOp .BitAnd) (rI0 fun i j => .int (Builtin.bitAnd i j)) := opI0 fun _ _ _ _ _ _ _ q => and_int q
theorem op_or : OpR X (binaryOp .BitOr) (rI0 fun i j => .int (Builtin.bitOr i j)) := opI0 fun _ _ _ _ _ _ _ q => or_int q
theorem op_xor : OpR X (binaryOp .BitXor) (rI0 fun i j => .int (Builtin.bitXor i j)) := opI0 fun _ _ _ _ _ _ _ q => xor_int q
theorem iop_add : OpR X (inplaceOp .Add) (rI0 fun i j => .int (i + j)) := opI0 fun _ _ _ _ _ _ _ q => iadd_int q
theorem iop_sub : OpR X (inplaceOp .Sub) (rI0 fun i j => .int (i - j)) := opI0 fun _ _ _ _ _ _ _ q => isub_int q
theorem iop_mul : OpR X (inplaceOp .Mult) (rI CMul fun i j => .int (i * j)) := opI fun _ _ _ _ _ _ _ hc q => imul_int q hc.ok
theorem iop_fdiv : OpR X (inplaceOp .FloorDiv) (rI CDiv fun i j => .int (i / j)) := opI fun i j _ _ _ _ _ hc q => by
  have h1 : (0 : Int) < j := hc.1
  have h2 : j < 1073741824 := hc.2
  exact ifloordiv_int (by omega) (by rw [Int.fdiv_eq_ediv_of_nonneg i (by omega)]; exact q) (.inl (PyProof.noPylong_small (by omega)))
theorem iop_mod : OpR X (inplaceOp .Mod) (rI (fun _ j => 0 < j) fun i j => .int (i % j)) := opI fun i j _ _ _ _ _ hc q => by
  have h1 : (0 : Int) < j := hc
  exact imod_int (by omega) (by rw [Int.fmod_eq_emod_of_nonneg i (by omega)]; exact q)
theorem iop_shl : OpR X (inplaceOp .LShift) (rI CPow fun i j => .int (i * 2 ^ j.toNat)) := opI fun _ _ _ _ _ _ _ hc q => ilshift_int_small hc.1 hc.2.1 hc.2.2 q
theorem iop_shr : OpR X (inplaceOp .RShift) (rI (fun _ j => 0 ≤ j) fun i j => .int (i / 2 ^ j.toNat)) := opI fun i j _ _ _ _ _ hc q =>
  irshift_int hc (by rw [Int.fdiv_eq_ediv_of_nonneg i (two_pow_nn _)]; exact q)
theorem iop_and : OpR X (inplaceOp .BitAnd) (rI0 fun i j => .int (Builtin.bitAnd i j)) := opI0 fun _ _ _ _ _ _ _ q => iand_int q
theorem iop_or : OpR X (inplaceOp .BitOr) (rI0 fun i j => .int (Builtin.bitOr i j)) := opI0 fun _ _ _ _ _ _ _ q => ior_int q
theorem iop_xor : OpR X (inplaceOp .BitXor) (rI0 fun i j => .int (Builtin.bitXor i j)) := opI0 fun _ _ _ _ _ _ _ q => ixor_int q
theorem unI {f : Value → Sem Value} {g : Int → Int}
    (rule : ∀ (i : Int) (t : Tok) (s : Shared) (Q : Value → Shared → Prop) (E : Value → Shared → Prop), Q (.int (g i) s.toks) { s with toks := s.toks + 1 } → wpAny (model X.prog X.w) X.A (f (.int i t)) Q E s) :
    UnR X f (rU fun i => .int (g i)) := by
  intro pins s σ H x v Q I rx h
  obtain ⟨i, rfl, q⟩ := h
  obtain ⟨t, rfl⟩ := rx
  exact rule i t s _ _ ⟨.int (g i), H, I.tok _, ⟨_, rfl⟩, q⟩
theorem un_neg : UnR X (unaryOp .USub) (rU fun i => .int (-i)) := unI fun _ _ _ _ _ q => neg_int q
theorem un_inv : UnR X (unaryOp .Invert) (rU fun i => .int (Builtin.bitNot i)) := unI fun _ _ _ _ _ q => invert_int q
theorem op_add_ib : OpR X (binaryOp .Add) (fun x y H Q => ∃ i k, x = .int i ∧ y = .bl k ∧ Q (.int (i + b2i k)) H) := by
  intro pins s σ H x y v u Q I rx ry h
  obtain ⟨i, k, rfl, rfl, q⟩ := h
  obtain ⟨t, rfl⟩ := rx
  cases ry
  exact add_int_bool ⟨.int (i + b2i k), H, I.tok _, ⟨_, rfl⟩, q⟩
end
def scal : V → V → Bool
  | .non, .non => true | .non, .int _ => true | .int _, .non => true | .non, .bl _ => true | .bl _, .non => true | .non, .str _ => true | .str _, .non => true
  | .int _, .int _ => true | .bl _, .bl _ => true | .str _, .str _ => true | .byt _, .byt _ => true
  | .int _, .str _ => true | .str _, .int _ => true | .bl _, .str _ => true | .str _, .bl _ => true
  | _, _ => false
def rEq : R2 := fun x y H Q => scal x y = true ∧ Q (.bl (decide (x = y))) H
def rNe : R2 := fun x y H Q => scal x y = true ∧ Q (.bl (!decide (x = y))) H
theorem dec_int {i j : Int} : decide (V.int i = V.int j) = (i == j) := by
  rw [Bool.eq_iff_iff]
  simp
theorem dec_bl {i j : Bool} : decide (V.bl i = V.bl j) = (i == j) := by
  rw [Bool.eq_iff_iff]
  simp
theorem dec_str {i j : Str} : decide (V.str i = V.str j) = (i == j) := by
  rw [Bool.eq_iff_iff]
  simp
theorem dec_byt {i j : Array UInt8} : decide (V.byt i = V.byt j) = (i.toList == j.toList) := by
  rw [Bool.eq_iff_iff]
  cases i
  cases j
  simp
section
variable {X : Cx} {a b c : Expr} {ta tb tc : TE} {pos : Pos}
theorem fin_bl {pins : List (Addr × Obj)} {σ : St} {H : Hp} {s : Shared} {Q : VK} {k k' : Bool} (I : Inv X pins σ H s) (q : Q (.bl k) H) (e : k = k') : EP X pins σ Q (.bool k') s := by
  subst e
  exact ⟨.bl k, H, I, rfl, q⟩
theorem op_eq : OpR X (compareOp .Eq) rEq := by
  intro pins s σ H x y v u Q I rx ry h
  obtain ⟨hs, q⟩ := h
  cases x with
  | non =>
    cases rx
    cases y with
    | non => cases ry; exact PySem.EqNone.eq_none_none (fin_bl I q (by simp))
    | bl j => cases ry; exact PySem.EqNone.eq_none_bool (fin_bl I q (by simp))
    | int j => obtain ⟨t', rfl⟩ := ry; exact PySem.EqNone.eq_none_int (fin_bl I q (by simp))
    | str j => obtain ⟨t', rfl⟩ := ry; exact PySem.EqNone.eq_none_str (fin_bl I q (by simp))
    | _ => exact absurd (show false = true from hs) Bool.false_ne_true
  | bl i =>
    cases rx
    cases y with
    | non => cases ry; exact PySem.EqNone.eq_bool_none (fin_bl I q (by simp))
    | bl j => cases ry; exact eq_bool (fin_bl I q dec_bl)
    | str j => obtain ⟨t', rfl⟩ := ry; exact PySem.EqMixed.eq_bool_str (fin_bl I q (by simp))
    | _ => exact absurd (show false = true from hs) Bool.false_ne_true
  | int i =>
    obtain ⟨t, rfl⟩ := rx
    cases y with
    | non => cases ry; exact PySem.EqNone.eq_int_none (fin_bl I q (by simp))
    | int j => obtain ⟨t', rfl⟩ := ry; exact eq_int (fin_bl I q dec_int)
    | str j => obtain ⟨t', rfl⟩ := ry; exact PySem.EqMixed.eq_int_str (fin_bl I q (by simp))
    | _ => exact absurd (show false = true from hs) Bool.false_ne_true
  | str i =>
    obtain ⟨t, rfl⟩ := rx
    cases y with
    | non => cases ry; exact PySem.EqNone.eq_str_none (fin_bl I q (by simp))
    | bl j => cases ry; exact PySem.EqMixed.eq_str_bool (fin_bl I q (by simp))
    | int j => obtain ⟨t', rfl⟩ := ry; exact PySem.EqMixed.eq_str_int (fin_bl I q (by simp))
    | str j => obtain ⟨t', rfl⟩ := ry; exact eq_str (fin_bl I q dec_str)
    | _ => exact absurd (show false = true from hs) Bool.false_ne_true
  | byt i =>
    obtain ⟨t, rfl⟩ := rx
    cases y with
    | byt j => obtain ⟨t', rfl⟩ := ry; exact PySem.W.eq_bytes (fin_bl I q dec_byt)
    | _ => exact absurd (show false = true from hs) Bool.false_ne_true
  | _ => cases y <;> exact absurd (show false = true from hs) Bool.false_ne_true
theorem op_ne : OpR X (compareOp .NotEq) rNe := by
  intro pins s σ H x y v u Q I rx ry h
  obtain ⟨hs, q⟩ := h
  cases x with
  | non =>
    cases rx
    cases y with
    | non => cases ry; exact PySem.EqNone.ne_none_none (fin_bl I q (by simp))
    | bl j => cases ry; exact PySem.EqNone.ne_none_bool (fin_bl I q (by simp))
    | int j => obtain ⟨t', rfl⟩ := ry; exact PySem.EqNone.ne_none_int (fin_bl I q (by simp))
    | str j => obtain ⟨t', rfl⟩ := ry; exact PySem.EqNone.ne_none_str (fin_bl I q (by simp))
    | _ => exact absurd (show false = true from hs) Bool.false_ne_true
  | bl i =>
    cases rx
    cases y with
    | non => cases ry; exact PySem.EqNone.ne_bool_none (fin_bl I q (by simp))
    | bl j => cases ry; exact ne_bool (fin_bl I q (congrArg not dec_bl))
    | str j => obtain ⟨t', rfl⟩ := ry; exact PySem.EqMixed.ne_bool_str (fin_bl I q (by simp))
    | _ => exact absurd (show false = true from hs) Bool.false_ne_true
  | int i =>
    obtain ⟨t, rfl⟩ := rx
    cases y with
    | non => cases ry; exact PySem.EqNone.ne_int_none (fin_bl I q (by simp))
    | int j => obtain ⟨t', rfl⟩ := ry; exact ne_int (fin_bl I q (congrArg not dec_int))
    | str j => obtain ⟨t', rfl⟩ := ry; exact PySem.EqMixed.ne_int_str (fin_bl I q (by simp))
    | _ => exact absurd (show false = true from hs) Bool.false_ne_true
  | str i =>
    obtain ⟨t, rfl⟩ := rx
    cases y with
    | non => cases ry; exact PySem.EqNone.ne_str_none (fin_bl I q (by simp))
    | bl j => cases ry; exact PySem.EqMixed.ne_str_bool (fin_bl I q (by simp))
    | int j => obtain ⟨t', rfl⟩ := ry; exact PySem.EqMixed.ne_str_int (fin_bl I q (by simp))
    | str j => obtain ⟨t', rfl⟩ := ry; exact ne_str (fin_bl I q (congrArg not dec_str))
    | _ => exact absurd (show false = true from hs) Bool.false_ne_true
  | byt i =>
    obtain ⟨t, rfl⟩ := rx
    cases y with
    | byt j => obtain ⟨t', rfl⟩ := ry; exact PySem.W.ne_bytes (fin_bl I q (congrArg not dec_byt))
    | _ => exact absurd (show false = true from hs) Bool.false_ne_true
  | _ => cases y <;> exact absurd (show false = true from hs) Bool.false_ne_true
theorem op_lt : OpR X (compareOp .Lt) (rI0 fun i j => .bl (decide (i < j))) := opB0 fun _ _ _ _ _ _ _ q => lt_int q
theorem op_le : OpR X (compareOp .LtE) (rI0 fun i j => .bl (decide (i ≤ j))) := opB0 fun _ _ _ _ _ _ _ q => le_int q
theorem op_gt : OpR X (compareOp .Gt) (rI0 fun i j => .bl (decide (j < i))) := opB0 fun _ _ _ _ _ _ _ q => gt_int q
theorem op_ge : OpR X (compareOp .GtE) (rI0 fun i j => .bl (decide (j ≤ i))) := opB0 fun _ _ _ _ _ _ _ q => ge_int q
theorem op_lt_str : OpR X (compareOp .Lt) (fun x y H Q => ∃ i j, x = .str i ∧ y = .str j ∧ Q (.bl (decide (i.cps.toList < j.cps.toList))) H) := by
  intro pins s σ H x y v u Q I rx ry h
  obtain ⟨i, j, rfl, rfl, q⟩ := h
  obtain ⟨t, rfl⟩ := rx
  obtain ⟨t', rfl⟩ := ry
  exact lt_str (fin_bl I q rfl)
theorem op_in_str : OpR X (compareOp .In) (fun x y H Q => ∃ i j, x = .str i ∧ y = .str j ∧ Q (.bl (!(Builtin.Str.occurrences j i 0 j.length 1).isEmpty)) H) := by
  intro pins s σ H x y v u Q I rx ry h
  obtain ⟨i, j, rfl, rfl, q⟩ := h
  obtain ⟨t, rfl⟩ := rx
  obtain ⟨t', rfl⟩ := ry
  exact in_str (fin_bl I q rfl)
theorem op_isN : OpR X (compareOp .Is) (fun x y H Q => y = .non ∧ Q (.bl (decide (x = .non))) H) := by
  intro pins s σ H x y v u Q I rx ry h
  obtain ⟨rfl, q⟩ := h
  cases ry
  refine is_none_gen (fin_bl I q ?_)
  cases x <;> first
    | (cases rx; rfl)
    | (obtain ⟨t, rfl⟩ := rx; rfl)
theorem op_notN : OpR X (compareOp .IsNot) (fun x y H Q => y = .non ∧ Q (.bl (!decide (x = .non))) H) := by
  intro pins s σ H x y v u Q I rx ry h
  obtain ⟨rfl, q⟩ := h
  cases ry
  refine isnot_none_gen (fin_bl I q ?_)
  cases x <;> first
    | (cases rx; rfl)
    | (obtain ⟨t, rfl⟩ := rx; rfl)
theorem op_notin_str : OpR X (compareOp .NotIn) (fun x y H Q => ∃ i j, x = .str i ∧ y = .str j ∧ Q (.bl (!(!(Builtin.Str.occurrences j i 0 j.length 1).isEmpty))) H) := by
  intro pins s σ H x y v u Q I rx ry h
  obtain ⟨i, j, rfl, rfl, q⟩ := h
  obtain ⟨t, rfl⟩ := rx
  obtain ⟨t', rfl⟩ := ry
  exact notIn_str (fin_bl I q rfl)
def isObj : HO → Bool
  | .lst _ => true
  | .ins _ _ _ => true
  | _ => false
theorem obj_there {pins : List (Addr × Obj)} {s : Shared} {σ : St} {H : Hp} {a : Addr} {o : HO} (I : Inv X pins σ H s) (h : H a = some o) (p : isObj o = true) : ∃ ob, s.heap.get? a = some ob ∧ ob.cls ≠ .type "tuple" := by
  cases o with
  | lst xs =>
    obtain ⟨_, its, n, _, e⟩ : xs.length ≤ sizeLine ∧ ∃ (its : List Value) (n : Nat), Vals xs its ∧ s.heap.get? a = some { cls := .type "list", data := .seq its.toArray n } := I.hok a _ h
    exact ⟨_, e, (by show Value.type "list" ≠ .type "tuple"; decide +kernel)⟩
  | ins C dx fs =>
    have x := I.hok a _ h
    obtain ⟨_, _, _, e, _⟩ := x
    exact ⟨_, e, (by show Value.ref C ≠ .type "tuple"; exact fun z => by cases z)⟩
  | _ => exact absurd (show false = true from p) Bool.false_ne_true
theorem op_is_ref : OpR X (compareOp .Is) (fun x y H Q => ∃ a b oa ob, x = .ref a ∧ y = .ref b ∧ H a = some oa ∧ isObj oa = true ∧ H b = some ob ∧ isObj ob = true ∧ Q (.bl (decide (a = b))) H) := by
  intro pins s σ H x y v u Q I rx ry h
  obtain ⟨a, b, oa, ob, rfl, rfl, ha, pa, hb, pb, q⟩ := h
  cases rx
  cases ry
  obtain ⟨o1, e1, n1⟩ := obj_there I ha pa
  obtain ⟨o2, e2, _⟩ := obj_there I hb pb
  by_cases z : a = b
  · subst z
    exact wpAny_is_ref_self (fin_bl I q (by simp))
  · exact wpAny_is_ref_other z e1 e2 n1 (fin_bl I q (by simp [z]))
theorem op_isnot_ref : OpR X (compareOp .IsNot) (fun x y H Q => ∃ a b oa ob, x = .ref a ∧ y = .ref b ∧ H a = some oa ∧ isObj oa = true ∧ H b = some ob ∧ isObj ob = true ∧ Q (.bl (!decide (a = b))) H) := by
  intro pins s σ H x y v u Q I rx ry h
  obtain ⟨a, b, oa, ob, rfl, rfl, ha, pa, hb, pb, q⟩ := h
  cases rx
  cases ry
  obtain ⟨o1, e1, n1⟩ := obj_there I ha pa
  obtain ⟨o2, e2, _⟩ := obj_there I hb pb
  by_cases z : a = b
  · subst z
    exact wpAny_isNot_ref_self (fin_bl I q (by simp))
  · exact wpAny_isNot_ref_other z e1 e2 n1 (fin_bl I q (by simp [z]))
theorem OpR.or {f : Value → Value → Sem Value} {r r' : R2} (h : OpR X f r) (h' : OpR X f r') : OpR X f (fun x y H Q => r x y H Q ∨ r' x y H Q) := by
  intro pins s σ H x y v u Q I rx ry q
  rcases q with q | q
  · exact h pins s σ H x y v u Q I rx ry q
  · exact h' pins s σ H x y v u Q I rx ry q
theorem nomark (b : Expr) {op : CmpOp} (h : op ≠ .In := by decide) (h2 : op ≠ .NotIn := by decide) : behindInMarks op b = false := by
  have e1 : (op == CmpOp.In) = false := by cases op <;> first | rfl | exact absurd rfl h
  have e2 : (op == CmpOp.NotIn) = false := by cases op <;> first | rfl | exact absurd rfl h2
  cases b <;> simp [behindInMarks, e1, e2]
theorem pe_cmpR {op : CmpOp} {r : R2} (ho : OpR X (compareOp op) r) (ha : PE X a ta) (hb : PE X b tb) (hm : behindInMarks op b = false) : PE X (.Compare a [op] [b] pos) (tOp r ta tb) := by
  intro pins s σ H Q I h
  exact wpAny_Compare1 (binT ha hb I h fun v u s2 x y H2 I2 rx ry q => ho pins s2 σ H2 x y v u Q I2 rx ry q) hm
def tTest (t : TE) : TT := fun σ H Q => t σ H fun x H' => ∃ k, x = .bl k ∧ Q k H'
theorem pt_cmpR {op : CmpOp} {r : R2} (ho : OpR X (compareOp op) r) (ha : PE X a ta) (hb : PE X b tb) (hm : behindInMarks op b = false) : PT X (.Compare a [op] [b] pos) (tTest (tOp r ta tb)) := by
  intro pins s σ H Q I h
  refine wpAny_isTrue_Compare1 (thn (ha pins s σ H _ I h) fun v s1 ⟨x, H1, I1, r1, q1⟩ => thn (hb pins s1 σ H1 _ I1 q1) fun u s2 ⟨y, H2, I2, r2, q2⟩ =>
    thn (ho pins s2 σ H2 x y v u _ I2 r1 r2 q2) fun c s3 ⟨z, H3, I3, r3, k, e, q3⟩ => ?_) hm
  subst e
  cases r3
  exact wpAny_truthy_bool ⟨H3, I3, q3⟩
def tChain (r r' : R2) (ta tb tc : TE) : TE := fun σ H Q => ta σ H fun x H1 => tb σ H1 fun y H2 => r x y H2 fun z H3 => ∃ k, z = .bl k ∧
  (if k = true then tc σ H3 fun w' H4 => r' y w' H4 Q else Q (.bl false) H3)
theorem pe_chain {op op' : CmpOp} {r r' : R2} (ho : OpR X (compareOp op) r) (ho' : OpR X (compareOp op') r') (ha : PE X a ta) (hb : PE X b tb) (hc : PE X c tc)
    (hm : lastMarks [op, op'] [b, c] = false := by with_unfolding_all rfl) : PE X (.Compare a [op, op'] [b, c] pos) (tChain r r' ta tb tc) := by
  intro pins s σ H Q I h
  refine Compare_chain (thn (ha pins s σ H _ I h) fun v s1 ⟨x, H1, I1, r1, q1⟩ => chain_link (thn (hb pins s1 σ H1 _ I1 q1) fun u s2 ⟨y, H2, I2, r2, q2⟩ =>
    thn (ho pins s2 σ H2 x y v u _ I2 r1 r2 q2) fun d s3 ⟨z, H3, I3, r3, k, e, q3⟩ => ?_)) hm
  subst e
  cases r3
  refine wpAny_truthy_bool ?_
  cases k with
  | false => exact ite_ff ⟨.bl false, H3, I3, rfl, q3⟩
  | true => exact ite_tt (chain_last (thn (hc pins s3 σ H3 _ I3 q3) fun w' s4 ⟨z', H4, I4, r4, q4⟩ => ho' pins s4 σ H4 y z' u w' Q I4 r2 r4 q4))
theorem pt_chain {op op' : CmpOp} {r r' : R2} (ho : OpR X (compareOp op) r) (ho' : OpR X (compareOp op') r') (ha : PE X a ta) (hb : PE X b tb) (hc : PE X c tc)
    (hm : lastMarks [op, op'] [b, c] = false := by with_unfolding_all rfl) : PT X (.Compare a [op, op'] [b, c] pos) (tTest (tChain r r' ta tb tc)) := by
  intro pins s σ H Q I h
  refine isTrue_chain (thn (ha pins s σ H _ I h) fun v s1 ⟨x, H1, I1, r1, q1⟩ => test_link (thn (hb pins s1 σ H1 _ I1 q1) fun u s2 ⟨y, H2, I2, r2, q2⟩ =>
    thn (ho pins s2 σ H2 x y v u _ I2 r1 r2 q2) fun d s3 ⟨z, H3, I3, r3, k, e, q3⟩ => ?_)) hm
  subst e
  cases r3
  refine wpAny_truthy_bool ?_
  cases k with
  | false =>
    obtain ⟨k', e', q'⟩ := q3
    cases e'
    exact ite_ff ⟨H3, I3, q'⟩
  | true =>
    refine ite_tt (test_last (thn (hc pins s3 σ H3 _ I3 q3) fun w' s4 ⟨z', H4, I4, r4, q4⟩ => thn (ho' pins s4 σ H4 y z' u w' _ I4 r2 r4 q4) fun d' s5 ⟨z2, H5, I5, r5, k2, e2, q5⟩ => ?_))
    subst e2
    cases r5
    exact wpAny_truthy_bool ⟨H5, I5, q5⟩
def TruV (K : PySem.W.Frag) (x : V) (H : Hp) (k : Bool) : Prop :=
  match x with
  | .non => k = false
  | .bl b => k = b
  | .int i => k = (i != 0)
  | .str y => y.length ≤ sizeLine ∧ k = ((y.length : Int) != 0)
  | .byt y => y.size ≤ sizeLine ∧ k = ((y.size : Int) != 0)
  | .ref p => (∃ xs, SqL K H p xs ∧ k = !xs.isEmpty) ∨ (∃ xs, SqT K H p xs ∧ k = !xs.isEmpty) ∨ ∃ kvs, H p = some (.dK kvs) ∧ k = !kvs.isEmpty
  | _ => False
theorem isEmpty_kv {κ : Type} {kvs : List (κ × V)} {vs : List (κ × Value)} (r : KV kvs vs) : (!vs.isEmpty) = !kvs.isEmpty := by
  cases r <;> rfl
theorem isEmpty_of {xs : List V} {its : List Value} (r : Vals xs its) : (!its.toArray.isEmpty) = !xs.isEmpty := by
  cases r <;> simp
theorem line63 : (sizeLine : Nat) < 2 ^ 63 := by rw [sizeLine_eq]; decide
theorem tru_ok : TruR X (fun x H Q => ∃ k, TruV X.K x H k ∧ Q k H) := by
  intro pins s σ H x v Q I rx h
  obtain ⟨k, e, q⟩ := h
  have hl := line63
  have hs : sizeLine = 16777216 := sizeLine_eq
  cases x with
  | non =>
    cases rx
    have e' : k = false := e
    subst e'
    exact truthy_none ⟨H, I, q⟩
  | bl b =>
    cases rx
    have e' : k = b := e
    subst e'
    exact wpAny_truthy_bool ⟨H, I, q⟩
  | int i =>
    obtain ⟨t, rfl⟩ := rx
    have e' : k = (i != 0) := e
    subst e'
    exact PySem.P.truthy_int ⟨H, I, q⟩
  | str y =>
    obtain ⟨t, rfl⟩ := rx
    obtain ⟨hy, e'⟩ : y.length ≤ sizeLine ∧ k = ((y.length : Int) != 0) := e
    subst e'
    exact PySem.P.truthy_str (by omega) ⟨H, I.tok _, q⟩
  | byt y =>
    obtain ⟨t, rfl⟩ := rx
    obtain ⟨hy, e'⟩ : y.size ≤ sizeLine ∧ k = ((y.size : Int) != 0) := e
    subst e'
    exact PySem.W.truthy_bytes (by omega) ⟨H, I.tok _, q⟩
  | ref p =>
    cases rx
    have e' : (∃ xs, SqL X.K H p xs ∧ k = !xs.isEmpty) ∨ (∃ xs, SqT X.K H p xs ∧ k = !xs.isEmpty) ∨ ∃ kvs, H p = some (.dK kvs) ∧ k = !kvs.isEmpty := e
    rcases e' with ⟨xs, hx, e'⟩ | ⟨xs, hx, e'⟩ | ⟨kvs, hx, e'⟩
    · subst e'
      obtain ⟨its, r, pl, hz⟩ := I.list hx
      have hlen := r.length
      exact wpAny_truthy_list pl.isList (by simp only [List.size_toArray]; omega) ⟨H, I.tok _, by rw [isEmpty_of r]; exact q⟩
    · subst e'
      obtain ⟨its, r, pl, hz⟩ := I.tuple hx
      have hlen := r.length
      exact truthy_tuple pl (by simp only [List.size_toArray]; omega) ⟨H, I.tok _, by rw [isEmpty_of r]; exact q⟩
    · subst e'
      obtain ⟨hz, hS, vs, r, m⟩ : kvs.length ≤ sizeLine ∧ (p == sysModules) = false ∧ ∃ vs, KV kvs vs ∧ s.heap.DictOf (mixKind X.prog X.w) p vs := I.hok p _ hx
      have hlen : kvs.length = vs.length := Paired.length r
      exact wpAny_truthy_dict hS m (by omega) ⟨H, I.tok _, by rw [isEmpty_kv r]; exact q⟩
  | _ => exact (show False from e).elim
theorem pt_truth (ha : PE X a ta) (he : ∀ whole, isTrue a X.env whole = (do let v ← whole; standAt a.pos; holding [v] (truthy v))) :
    PT X a (fun σ H Q => ta σ H fun x H' => ∃ k, TruV X.K x H' k ∧ Q k H') := by
  intro pins s σ H Q I h
  exact isTrue_plain (thn (ha pins s σ H _ I h) fun v s1 ⟨x, H1, I1, r1, q1⟩ => tru_ok pins s1 σ H1 x v Q I1 r1 q1) (he _)
theorem pe_byt {x : List UInt8} {k : Nat} : PE X (.Constant (.bytes x) k pos) (fun _ H Q => Q (.byt x.toArray) H) := fun _ _ _ H _ I h => PySem.W.Constant_bytes ⟨.byt x.toArray, H, I.tok _, ⟨_, rfl⟩, h⟩
theorem op_add_str : OpR X (binaryOp .Add) (fun x y H Q => ∃ i j, x = .str i ∧ y = .str j ∧ i.length + j.length ≤ sizeLine ∧ Q (.str (i ++ j)) H) := by
  intro pins s σ H x y v u Q I rx ry h
  obtain ⟨i, j, rfl, rfl, hz, q⟩ := h
  obtain ⟨t, rfl⟩ := rx
  obtain ⟨t', rfl⟩ := ry
  exact add_str (fun t' tk => ⟨.str (i ++ j), H, I.tok _, ⟨_, rfl⟩, q⟩) hz
theorem iop_add_str : OpR X (inplaceOp .Add) (fun x y H Q => ∃ i j, x = .str i ∧ y = .str j ∧ i.length + j.length ≤ sizeLine ∧ Q (.str (i ++ j)) H) := by
  intro pins s σ H x y v u Q I rx ry h
  obtain ⟨i, j, rfl, rfl, hz, q⟩ := h
  obtain ⟨t, rfl⟩ := rx
  obtain ⟨t', rfl⟩ := ry
  exact iadd_str (fun t' tk => ⟨.str (i ++ j), H, I.tok _, ⟨_, rfl⟩, q⟩) hz
theorem op_add_byt : OpR X (binaryOp .Add) (fun x y H Q => ∃ i j, x = .byt i ∧ y = .byt j ∧ i.size + j.size ≤ 16777216 ∧ Q (.byt (i ++ j)) H) := by
  intro pins s σ H x y v u Q I rx ry h
  obtain ⟨i, j, rfl, rfl, hz, q⟩ := h
  obtain ⟨t, rfl⟩ := rx
  obtain ⟨t', rfl⟩ := ry
  exact PySem.W.KBy.add_bytes hz (fun t' tk => ⟨.byt (i ++ j), H, I.tok _, ⟨_, rfl⟩, q⟩)
def PlainIxT (b : Expr) : Prop := ∀ o i, subscripted b false o i = operate [o, i] (getItem o i)
theorem pe_item_str (ha : PE X a ta) (hb : PE X b tb) (hs : PlainIxT b) :
    PE X (.Subscript a b pos) (tOp (fun x y H Q => ∃ z i c, x = .str z ∧ y = .int i ∧ 0 ≤ i ∧ i < 2 ^ 63 ∧ i < z.length ∧ z.cps[i.toNat]? = some c ∧ Q (.str ⟨#[c]⟩) H) ta tb) := by
  intro pins s σ H Q I h
  refine Subscript_ (binT ha hb I h fun v u s2 x y H2 I2 rx ry q => ?_)
  obtain ⟨z, i, c, rfl, rfl, h0, h63, h1, hc, q⟩ := q
  obtain ⟨t, rfl⟩ := rx
  obtain ⟨t', rfl⟩ := ry
  have e : seqIndex? i z.length = some i.toNat := PySem.StrLaws.seqIndex_nonneg h0 h1
  exact tail_any (typeIs_str s2 z t) slot_str_getitem.lookup (getItem_str (c := c) (by
    have e1 : decide (i < -(2 ^ 63 : Int)) = false := decide_eq_false (by omega)
    have e2 : decide (i ≥ 2 ^ 63) = false := decide_eq_false (by omega)
    rw [e1, e2] <;> rfl) (by rw [e]; exact hc) ⟨.str ⟨#[c]⟩, H2, I2.tok _, ⟨_, rfl⟩, q⟩) (hs _ _)
theorem pe_item_byt (ha : PE X a ta) (hb : PE X b tb) (hs : PlainIxT b) :
    PE X (.Subscript a b pos) (tOp (fun x y H Q => ∃ (z : List UInt8) (i : Int), x = .byt z.toArray ∧ y = .int i ∧ z.length ≤ sizeLine ∧ 0 ≤ i ∧ i < z.length ∧ Q (.int ((z.getD i.toNat 0).toNat : Nat)) H) ta tb) := by
  intro pins s σ H Q I h
  refine Subscript_ (binT ha hb I h fun v u s2 x y H2 I2 rx ry q => ?_)
  obtain ⟨z, i, rfl, rfl, hz, h0, h1, q⟩ := q
  obtain ⟨t, rfl⟩ := rx
  obtain ⟨t', rfl⟩ := ry
  have hl : sizeLine = 16777216 := sizeLine_eq
  exact tail_any (PySem.W.typeIs_bytes s2 z.toArray t) PySem.W.FB.slot_bytes_getitem.lookup (PySem.W.getItem_bytes (by omega) h0 h1 ⟨.int ((z.getD i.toNat 0).toNat : Nat), H2, I2.tok _, ⟨_, rfl⟩, q⟩) (hs _ _)
theorem vals1 {x : V} {us : List Value} (r : Vals [x] us) : ∃ u, us = [u] ∧ RelV x u := by
  cases r with
  | cons r1 r2 => cases r2; exact ⟨_, rfl, r1⟩
theorem vals2 {x y : V} {us : List Value} (r : Vals [x, y] us) : ∃ u w', us = [u, w'] ∧ RelV x u ∧ RelV y w' := by
  cases r with
  | cons r1 r2 =>
    cases r2 with
    | cons r3 r4 => cases r4; exact ⟨_, _, rfl, r1, r3⟩
theorem call_abs : CallR X (.builtin "abs") (fun xs H Q => ∃ i, xs = [.int i] ∧ Q (.int (if i < 0 then -i else i)) H) := by
  intro pins s σ H xs us Q I r h
  obtain ⟨i, rfl, q⟩ := h
  obtain ⟨u, rfl, t, rfl⟩ := vals1 r
  exact call_abs_int fun u tk => ⟨.int (if i < 0 then -i else i), H, I.tok _, ⟨_, rfl⟩, q⟩
theorem call_max2 (hc : X.calm = true) : CallR X (.builtin "max") (fun xs H Q => ∃ i j, xs = [.int i, .int j] ∧ Q (.int (if j > i then j else i)) H) := by
  intro pins s σ H xs us Q I r h
  obtain ⟨i, j, rfl, q⟩ := h
  obtain ⟨u, w', rfl, ⟨t, rfl⟩, ⟨t', rfl⟩⟩ := vals2 r
  refine max_two_ints (I.ok.hd hc) fun h' tk k => ⟨_, H, I.kept k, ?_, q⟩
  by_cases hj : j > i
  · rw [if_pos hj, if_pos hj]; exact ⟨_, rfl⟩
  · rw [if_neg hj, if_neg hj]; exact ⟨_, rfl⟩
theorem call_min2 (hc : X.calm = true) : CallR X (.builtin "min") (fun xs H Q => ∃ i j, xs = [.int i, .int j] ∧ Q (.int (if j < i then j else i)) H) := by
  intro pins s σ H xs us Q I r h
  obtain ⟨i, j, rfl, q⟩ := h
  obtain ⟨u, w', rfl, ⟨t, rfl⟩, ⟨t', rfl⟩⟩ := vals2 r
  refine min_two_ints (I.ok.hd hc) fun h' tk k => ⟨_, H, I.kept k, ?_, q⟩
  by_cases hj : j < i
  · rw [if_pos hj, if_pos hj]; exact ⟨_, rfl⟩
  · rw [if_neg hj, if_neg hj]; exact ⟨_, rfl⟩
theorem call_int1 : CallR X (.type "int") (fun xs H Q => (∃ i, xs = [.int i] ∧ Q (.int i) H) ∨ ∃ k, xs = [.bl k] ∧ Q (.int (if k then 1 else 0)) H) := by
  intro pins s σ H xs us Q I r h
  rcases h with ⟨i, rfl, q⟩ | ⟨k, rfl, q⟩
  · obtain ⟨u, rfl, t, rfl⟩ := vals1 r
    exact call_int_int ⟨.int i, H, I, ⟨_, rfl⟩, q⟩
  · obtain ⟨u, rfl, r1⟩ := vals1 r
    cases r1
    exact call_int_bool ⟨.int (if k then 1 else 0), H, I.tok _, ⟨_, rfl⟩, q⟩
theorem call_bool1 : CallR X (.type "bool") (fun xs H Q => (∃ i, xs = [.int i] ∧ Q (.bl (i != 0)) H) ∨ ∃ k, xs = [.bl k] ∧ Q (.bl k) H) := by
  intro pins s σ H xs us Q I r h
  rcases h with ⟨i, rfl, q⟩ | ⟨k, rfl, q⟩
  · obtain ⟨u, rfl, t, rfl⟩ := vals1 r
    exact call_bool_int ⟨.bl (i != 0), H, I, rfl, q⟩
  · obtain ⟨u, rfl, r1⟩ := vals1 r
    cases r1
    exact call_bool_bool ⟨.bl k, H, I, rfl, q⟩
theorem call_str_int : CallR X (.type "str") (fun xs H Q => ∃ i, xs = [.int i] ∧ i.natAbs.log2 < 1920 ∧ Q (.str (toString i)) H) := by
  intro pins s σ H xs us Q I r h
  obtain ⟨i, rfl, hz, q⟩ := h
  obtain ⟨u, rfl, t, rfl⟩ := vals1 r
  exact PySem.P.str_of_int hz ⟨.str _, H, I.tok _, ⟨_, rfl⟩, q⟩
theorem call_ord : CallR X (.builtin "ord") (fun xs H Q => ∃ x, xs = [.str x] ∧ x.length = 1 ∧ Q (.int (x.cps.getD 0 0 : Nat)) H) := by
  intro pins s σ H xs us Q I r h
  obtain ⟨x, rfl, hz, q⟩ := h
  obtain ⟨u, rfl, t, rfl⟩ := vals1 r
  exact ord_of_one hz ⟨.int _, H, I.tok _, ⟨_, rfl⟩, q⟩
theorem call_chr : CallR X (.builtin "chr") (fun xs H Q => ∃ i, xs = [.int i] ∧ 0 ≤ i ∧ i ≤ 1114111 ∧ Q (.str ⟨#[i.toNat]⟩) H) := by
  intro pins s σ H xs us Q I r h
  obtain ⟨i, rfl, h0, h1, q⟩ := h
  obtain ⟨u, rfl, t, rfl⟩ := vals1 r
  exact chr_of_range h0 h1 ⟨.str _, H, I.tok _, ⟨_, rfl⟩, q⟩
def LenV (K : PySem.W.Frag) (x : V) (H : Hp) (n : Nat) : Prop :=
  match x with
  | .str y => y.length ≤ sizeLine ∧ n = y.length
  | .byt y => y.size ≤ sizeLine ∧ n = y.size
  | .ref p => (∃ xs, SqL K H p xs ∧ n = xs.length) ∨ ∃ xs, SqT K H p xs ∧ n = xs.length
  | _ => False
theorem call_len : CallR X (.builtin "len") (fun xs H Q => ∃ x n, xs = [x] ∧ LenV X.K x H n ∧ Q (.int n) H) := by
  intro pins s σ H xs us Q I r h
  obtain ⟨x, n, rfl, e, q⟩ := h
  obtain ⟨u, rfl, rx⟩ := vals1 r
  have hl := line63
  have hs : sizeLine = 16777216 := sizeLine_eq
  cases x with
  | str y =>
    obtain ⟨t, rfl⟩ := rx
    obtain ⟨hy, e'⟩ : y.length ≤ sizeLine ∧ n = y.length := e
    subst e'
    exact len_str (by omega) ⟨.int _, H, I.tok _, ⟨_, rfl⟩, q⟩
  | byt y =>
    obtain ⟨t, rfl⟩ := rx
    obtain ⟨hy, e'⟩ : y.size ≤ sizeLine ∧ n = y.size := e
    subst e'
    exact PySem.W.len_bytes (by omega) ⟨.int _, H, I.tok _, ⟨_, rfl⟩, q⟩
  | ref p =>
    cases rx
    have e' : (∃ xs, SqL X.K H p xs ∧ n = xs.length) ∨ ∃ xs, SqT X.K H p xs ∧ n = xs.length := e
    rcases e' with ⟨xs, hx, e'⟩ | ⟨xs, hx, e'⟩
    · subst e'
      obtain ⟨its, r', pl, hz⟩ := I.list hx
      have hlen := r'.length
      exact Calls.call_len_list pl.isList (by simp only [List.size_toArray]; omega) ⟨.int xs.length, H, I.tok _, ⟨_, by simp only [List.size_toArray]; rw [hlen]⟩, q⟩
    · subst e'
      obtain ⟨its, r', pl, hz⟩ := I.tuple hx
      have hlen := r'.length
      exact len_tuple pl (by simp only [List.size_toArray]; omega) ⟨.int xs.length, H, I.tok _, ⟨_, by simp only [List.size_toArray]; rw [hlen]⟩, q⟩
  | _ => exact (show False from e).elim
theorem call_divmod : CallR X (.builtin "divmod") (fun xs H Q => ∃ i j, xs = [.int i, .int j] ∧ CDiv i j ∧ ∀ p, H p = none → Q (.ref p) (upd H p (.tup [.int (i / j), .int (i % j)]))) := by
  intro pins s σ H xs us Q I r h
  obtain ⟨i, j, rfl, ⟨h1, h2⟩, q⟩ := h
  obtain ⟨u, w', rfl, ⟨t, rfl⟩, ⟨t', rfl⟩⟩ := vals2 r
  refine divmod_int (by omega) ?_ (.inl (PyProof.noPylong_small (by omega)))
  rw [Int.fdiv_eq_ediv_of_nonneg i (by omega), Int.fmod_eq_emod_of_nonneg i (by omega)]
  have hn : H s.heap.objs.size = none := I.hok.fresh (Nat.le_refl _)
  refine ⟨.ref s.heap.objs.size, _, ?_, rfl, q _ hn⟩
  refine I.laid (fun b o e => Heap.get?_push_of_some _ e) (Nat.le_refl _) ⟨by simp only [List.length_cons, List.length_nil]; rw [sizeLine_eq]; decide, [.int (i / j) s.toks, .int (i % j) (s.toks + 1)], .cons ⟨_, rfl⟩ (.cons ⟨_, rfl⟩ .nil), ?_⟩
  exact ⟨_, Heap.get?_push_size s.heap rfl, rfl, 0, rfl⟩
end
end L2
namespace L2
open PySem PySem.Spec PyProof.Rows
structure ObjM (h : Heap) (x dx C : Addr) (mA : Str → Option Value) : Prop where
  obj : h.get? x = some (PySem.W.instObj C dx)
  ns : h.Ns1 dx mA
  ne : dx ≠ x
theorem lookIn_ns {h : Heap} {dx : Addr} {mA : Str → Option Value} (n : h.Ns1 dx mA) : ∃ od, h.get? dx = some od ∧ ∀ name, PySem.W.lookIn name od = some (mA name) := by
  obtain ⟨o, es, ep, ho, hd, hk, _, hm⟩ := n
  refine ⟨o, ho, fun name => ?_⟩
  have e := hm name
  unfold nsFind findBy at e
  rw [← Array.find?_toList] at e
  unfold PySem.W.lookIn
  rw [hd]
  dsimp only
  split
  · rename_i y q
    rw [q] at e
    exact congrArg some e
  · rename_i q
    rw [q] at e
    have a : es.toList.any (·.refKey) = false := by
      rw [List.any_eq_false]
      intro y hy
      obtain ⟨z, t, hkey⟩ := hk y (Array.mem_toList_iff.mp hy)
      simp [DictEntry.refKey, hkey]
    have a' : ¬ es.toList.any (·.refKey) = true := by rw [a]; exact Bool.false_ne_true
    rw [if_neg a']
    exact congrArg some e
theorem ObjM.look {h : Heap} {x dx C : Addr} {mA : Str → Option Value} (I : ObjM h x dx C mA) : ∃ od, PySem.W.InstAt h x (PySem.W.instObj C dx) C (some od) ∧ ∀ name, PySem.W.lookIn name od = some (mA name) :=
  let ⟨od, ho, hl⟩ := lookIn_ns I.ns
  ⟨od, ⟨I.obj, rfl, rfl, ho⟩, hl⟩
section
variable {prog : Program} {w : World} {A : Around} {E : Value → Shared → Prop} {s : Shared} {K : PySem.W.Frag} {x dx C f : Addr} {mA : Str → Option Value} {name : Str} {v : Value}
theorem get_map {expr : Bool} {Q : Value → Shared → Prop} (X : K.In s.heap) (I : ObjM s.heap x dx C mA) (hg : PySem.W.plainGet K C name = true) (hh : PySem.W.hasDictIn K C = true)
    (ha : PySem.W.findIn K (.ref C) name = some none) (hv : mA name = some v) (hv' : PySem.W.handedIn v = true) (h : Q v { s with toks := s.toks + 1 }) :
    wpAny (model prog w) A (getAttr (.ref x) name expr) Q E s := by
  obtain ⟨od, J, hl⟩ := I.look
  exact PySem.W.get_value X J (PySem.W.plainGet_of hg).1 (PySem.W.findObj_own hh ha rfl (by rw [hl, hv])) hv' h
theorem get_const {expr : Bool} {a : Value} {Q : Value → Shared → Prop} (X : K.In s.heap) (I : ObjM s.heap x dx C mA) (hg : PySem.W.plainGet K C name = true) (hh : PySem.W.hasDictIn K C = true)
    (ha : PySem.W.findIn K (.ref C) name = some (some a)) (hn : PySem.W.specialIn K a "__get__" = some none) (hc : PySem.W.copiedNames.contains name = false) (hv : mA name = none) (hv' : PySem.W.handedIn a = true)
    (h : Q a { s with toks := s.toks + 1 }) : wpAny (model prog w) A (getAttr (.ref x) name expr) Q E s := by
  obtain ⟨od, J, hl⟩ := I.look
  exact PySem.W.get_value X J (PySem.W.plainGet_of hg).1 (PySem.W.findObj_cls hh ha hn hv' hc (by rw [hl, hv])) hv' h
theorem get_meth {pl : Sem Bool} {Q : Value × List Value → Shared → Prop} (X : K.In s.heap) (I : ObjM s.heap x dx C mA) (hg : PySem.W.plainGet K C name = true)
    (hf : PySem.W.findIn K (.ref C) name = some (some (.ref f))) (ht : PySem.W.isFn K (.ref f) = true) (hv : mA name = none) (h : Q (.ref f, [.ref x]) s) :
    wpAny (model prog w) A (getMethod (.ref x) name pl) Q E s := by
  obtain ⟨od, J, hl⟩ := I.look
  exact PySem.W.method_fn X J (PySem.W.plainGet_of hg).1 (PySem.W.plainGet_of hg).2 hf (beq_iff_eq.mp ht) (by show (PySem.W.lookIn name od).map (·.isSome) = some false; rw [hl, hv]; rfl) h
theorem set_map {ns : List Str} {Q : Unit → Shared → Prop} (X : K.In s.heap) (I : ObjM s.heap x dx C mA)
    (hs : PySem.W.findIn K (.ref C) "__setattr__" = some (some (.builtin "object.__setattr__"))) (hp : PySem.W.plainOver K C = true) (ht : PySem.W.takerIn K C name = some none) (hh : PySem.W.hasDictIn K C = true)
    (hw : PySem.Within mA ns) (hsz : ns.length ≤ sizeLine)
    (h : ∀ h', ObjM h' x dx C (fun y => if y = name then some v else mA y) → Heap.SameBut dx s.heap h' → Q () { s with heap := h', toks := s.toks + 2 }) :
    wpAny (model prog w) A (setAttr (.ref x) name v) Q E s := by
  obtain ⟨od, J, hl⟩ := I.look
  refine PySem.W.set_plain X J hs (PySem.W.osa_open (s := { s with toks := s.toks + 1 }) (r := none) X J hp ht fun b => ?_)
  obtain ⟨cd, hc, hd'⟩ := PySem.W.any_some hh
  have hx : s.heap.get? x = some ⟨.ref C, some dx, .plain, #[]⟩ := I.obj
  refine wpAny_bind (wpAny_pure (wpAny_bind (wpAny_bind (wpAny_loadPart hx (wpAny_bind (PySem.W.Looks.here (s := { s with toks := s.toks + 1 }) (PySem.W.looks_clsIn X hc) ?_))))))
  rw [hd']
  refine wpAny_pure (a := some dx) (wpAny_bind (wpAny_pure (wpAny_bind ?_)))
  refine wpAny_nsSet1 (s := { s with toks := s.toks + 1 }) I.ns fun h' hn2 hs2 => ?_
  obtain ⟨oD, esD, epD, hoD, hdD, hcD⟩ := hn2.count (PySem.Within.cons name v hw)
  refine wpAny_bind (wpAny_lookBehind hoD (by rw [hdD]; exact pastItsLine_dict (Nat.le_trans hcD (by rw [List.length_cons]; omega))) ?_)
  exact wpAny_pure (h _ ⟨(hs2.2 _ (Ne.symm I.ne)).trans I.obj, hn2, I.ne⟩ hs2)
theorem make_map {R : Result → Shared → Prop} {vs : List Value} {kw : List (Str × Value)} (X : K.In s.heap) (hm : PySem.W.makesIn K C = true)
    (hi : PySem.W.findIn K (.ref C) "__init__" = some (some (.ref f))) (hf : PySem.W.typeIn K (.ref f) = some (.type "function"))
    (h : codeAny (model prog w) (A.under (.builtin "type.__call__" ⟨.ref C :: vs, kw⟩)) (.call (.ref f) ⟨.ref (s.heap.objs.size + 1) :: vs, kw⟩) (PySem.W.InitBack (s.heap.objs.size + 1) R)
      { s with heap := (s.heap.push PySem.W.emptyDict).push (PySem.W.instObj C s.heap.objs.size) }) :
    codeAny (model prog w) A (.call (.ref C) ⟨vs, kw⟩) R s := by
  obtain ⟨hh, g, d, t, os⟩ := s
  exact PySem.W.make_core (PySem.W.makes_of X hm) (PySem.W.looks_findIn X hi) (fun self => PySem.W.bind_fn X self hf) (.inl rfl) h
theorem make_map0 {R : Result → Shared → Prop} (X : K.In s.heap) (hm : PySem.W.makesIn K C = true)
    (hi : PySem.W.findIn K (.ref C) "__init__" = some (some (.builtin "object.__init__")))
    (hb : ∀ self, PySem.W.Looks (model prog w) s.heap (bindSpecial (.builtin "object.__init__") self) (.builtin "object.__init__", [self]))
    (h : codeAny (model prog w) (A.under (.builtin "type.__call__" ⟨[.ref C], []⟩)) (.call (.builtin "object.__init__") ⟨[.ref (s.heap.objs.size + 1)], []⟩) (PySem.W.InitBack (s.heap.objs.size + 1) R)
      { s with heap := (s.heap.push PySem.W.emptyDict).push (PySem.W.instObj C s.heap.objs.size) }) :
    codeAny (model prog w) A (.call (.ref C) ⟨[], []⟩) R s := by
  obtain ⟨hh, g, d, t, os⟩ := s
  exact PySem.W.make_core (PySem.W.makes_of X hm) (PySem.W.looks_findIn X hi) hb (.inr ⟨rfl, rfl⟩) h
end
def putF (f : Str) (v : V) : List (Str × V) → List (Str × V)
  | [] => [(f, v)]
  | (g, x) :: r => if g = f then (g, v) :: r else (g, x) :: putF f v r
theorem lookup_putF (f g : Str) (v : V) : ∀ fs : List (Str × V), (putF f v fs).lookup g = if g = f then some v else fs.lookup g
  | [] => by
    show List.lookup g [(f, v)] = _
    by_cases h : g = f
    · have hb : (g == f) = true := beq_iff_eq.mpr h
      simp only [List.lookup, hb, if_pos h]
    · have hb : (g == f) = false := beq_eq_false_iff_ne.mpr h
      simp only [List.lookup, hb, if_neg h]
  | (k, x) :: r => by
    have ih := lookup_putF f g v r
    rw [show putF f v ((k, x) :: r) = (if k = f then (k, v) :: r else (k, x) :: putF f v r) from rfl]
    by_cases hk : k = f
    · rw [if_pos hk]
      by_cases h : g = k
      · have hb : (g == k) = true := beq_iff_eq.mpr h
        simp only [List.lookup, hb, if_pos (h.trans hk)]
      · have hb : (g == k) = false := beq_eq_false_iff_ne.mpr h
        simp only [List.lookup, hb, if_neg (fun e : g = f => h (e.trans hk.symm))]
    · rw [if_neg hk]
      by_cases h : g = k
      · have hb : (g == k) = true := beq_iff_eq.mpr h
        simp only [List.lookup, hb, if_neg (fun e : g = f => hk (h.symm.trans e))]
      · have hb : (g == k) = false := beq_eq_false_iff_ne.mpr h
        simp only [List.lookup, hb]
        exact ih
theorem keys_putF (f : Str) (v : V) : ∀ fs : List (Str × V), f ∈ (putF f v fs).map (·.1) ∧ ∀ g, g ∈ fs.map (·.1) → g ∈ (putF f v fs).map (·.1)
  | [] => ⟨by simp [putF], fun g h => by simp at h⟩
  | (k, x) :: r => by
    obtain ⟨i1, i2⟩ := keys_putF f v r
    rw [show putF f v ((k, x) :: r) = (if k = f then (k, v) :: r else (k, x) :: putF f v r) from rfl]
    by_cases hk : k = f
    · rw [if_pos hk]
      subst hk
      exact ⟨by simp, fun g h => by simpa using h⟩
    · rw [if_neg hk]
      refine ⟨?_, fun g h => ?_⟩
      · rw [List.map_cons]
        exact List.mem_cons_of_mem _ i1
      · rw [List.map_cons] at h ⊢
        rcases List.mem_cons.mp h with e | e
        · exact List.mem_cons.mpr (.inl e)
        · exact List.mem_cons_of_mem _ (i2 g e)
theorem length_putF (f : Str) (v : V) : ∀ fs : List (Str × V), (putF f v fs).length ≤ fs.length + 1
  | [] => by simp [putF]
  | (k, x) :: r => by
    have ih := length_putF f v r
    rw [show putF f v ((k, x) :: r) = (if k = f then (k, v) :: r else (k, x) :: putF f v r) from rfl]
    by_cases hk : k = f
    · rw [if_pos hk, List.length_cons, List.length_cons]; omega
    · rw [if_neg hk, List.length_cons, List.length_cons]; omega
theorem RelO.some_of {v : V} {o : Option Value} (r : RelO (some v) o) : ∃ u, o = some u ∧ RelV v u := by
  cases o with
  | none => exact (show False from r).elim
  | some u => exact ⟨u, rfl, r⟩
theorem RelO.none_of {o : Option Value} (r : RelO none o) : o = none := by
  cases o with
  | none => rfl
  | some u => exact (show False from r).elim
theorem handed_of {v : V} {u : Value} (r : RelV v u) : PySem.W.handedIn u = true := by
  cases v with
  | non => cases (show u = Value.none from r); rfl
  | bl b => cases (show u = Value.bool b from r); rfl
  | int i => obtain ⟨t, e⟩ := (show ∃ t, u = Value.int i t from r); cases e; rfl
  | str x => obtain ⟨t, e⟩ := (show ∃ t, u = Value.str x t from r); cases e; rfl
  | byt b => obtain ⟨t, e⟩ := (show ∃ t, u = Value.bytes b t from r); cases e; rfl
  | flt b => obtain ⟨t, e⟩ := (show ∃ t, u = Value.float b t from r); cases e; rfl
  | ref a => cases (show u = Value.ref a from r); rfl
  | ty n => cases (show u = Value.type n from r); rfl
section
variable {P : Program} {w : World} {H H' : Hp} {h h' : Heap} {a C dx : Addr} {fs fs' : List (Str × V)}
theorem ins_get (hok : HOk P w H h) (e : H a = some (.ins C dx fs)) : ∃ mA, ObjM h a dx C mA ∧ (∀ f, RelO (fs.lookup f) (mA f)) ∧ PySem.Within mA (fs.map (·.1)) ∧ fs.length ≤ 1000 ∧ H dx = some (.own a) := by
  obtain ⟨d, z, ne, ob, mA, n, r, q⟩ := (show ObjOk P w H h a (.ins C dx fs) from hok a _ e)
  exact ⟨mA, ⟨ob, n, ne⟩, r, q, z, d⟩
end
structure Cls (K : PySem.W.Frag) (C : Addr) : Prop where
  pg : PySem.W.plainGet K C Str.empty = true
  hd : PySem.W.hasDictIn K C = true
  po : PySem.W.plainOver K C = true
  sa : PySem.W.findIn K (.ref C) "__setattr__" = some (some (.builtin "object.__setattr__"))
theorem Cls.get {K : PySem.W.Frag} {C : Addr} (c : Cls K C) (f : Str) : PySem.W.plainGet K C f = true := c.pg
def NoAttr (K : PySem.W.Frag) (C : Addr) (f : Str) : Prop := PySem.W.findIn K (.ref C) f = some none
theorem NoAttr.taker {K : PySem.W.Frag} {C : Addr} {f : Str} (n : NoAttr K C f) : PySem.W.takerIn K C f = some none := by
  unfold PySem.W.takerIn
  rw [show PySem.W.findIn K (.ref C) f = some none from n]
  rfl
structure Con (K : PySem.W.Frag) (C : Addr) (f : Str) (v : V) (u : Value) : Prop where
  at_ : PySem.W.findIn K (.ref C) f = some (some u)
  rel : RelV v u
  get : PySem.W.specialIn K u "__get__" = some none
  cp : PySem.W.copiedNames.contains f = false
structure Meth (K : PySem.W.Frag) (C : Addr) (m : Str) (f : Addr) : Prop where
  at_ : PySem.W.findIn K (.ref C) m = some (some (.ref f))
  fn : PySem.W.isFn K (.ref f) = true
  kp : PySem.W.keepIn K (.ref f) = true
section
variable {X : Cx} {pins : List (Addr × Obj)} {σ : St} {H : Hp} {s : Shared} {a C dx : Addr} {fs : List (Str × V)} {f : Str} {v : V} {A : Around} {E : Value → Shared → Prop}
theorem getattr_ok {b : Bool} {Q : Value → Shared → Prop} (I : Inv X pins σ H s) (e : H a = some (.ins C dx fs)) (c : Cls X.K C) (n : NoAttr X.K C f) (l : fs.lookup f = some v)
    (h : ∀ u s', Inv X pins σ H s' → RelV v u → Q u s') : wpAny (model X.prog X.w) A (getAttr (.ref a) f b) Q E s := by
  obtain ⟨mA, O, r, _, _, _⟩ := ins_get I.hok e
  obtain ⟨u, hu, ru⟩ := RelO.some_of (v := v) (o := mA f) (by rw [← l]; exact r f)
  exact get_map I.kIn O (c.get f) c.hd n hu (handed_of ru) (h u _ (I.tok _) ru)
theorem getcon_ok {b : Bool} {u : Value} {Q : Value → Shared → Prop} (I : Inv X pins σ H s) (e : H a = some (.ins C dx fs)) (c : Cls X.K C) (k : Con X.K C f v u) (l : fs.lookup f = none)
    (h : ∀ s', Inv X pins σ H s' → Q u s') : wpAny (model X.prog X.w) A (getAttr (.ref a) f b) Q E s := by
  obtain ⟨mA, O, r, _, _, _⟩ := ins_get I.hok e
  have hn : mA f = none := RelO.none_of (by rw [← l]; exact r f)
  exact get_const I.kIn O (c.get f) c.hd k.at_ k.get k.cp hn (handed_of k.rel) (h _ (I.tok _))
theorem getmeth_ok {m : Str} {g : Addr} {pl : Sem Bool} {Q : Value × List Value → Shared → Prop} (I : Inv X pins σ H s) (e : H a = some (.ins C dx fs)) (c : Cls X.K C) (k : Meth X.K C m g) (l : fs.lookup m = none)
    (h : Q (.ref g, [.ref a]) s) : wpAny (model X.prog X.w) A (getMethod (.ref a) m pl) Q E s := by
  obtain ⟨mA, O, r, _, _, _⟩ := ins_get I.hok e
  have hn : mA m = none := RelO.none_of (by rw [← l]; exact r m)
  exact get_meth I.kIn O (c.get m) k.at_ k.fn hn h
theorem setattr_ok {y : V} {u : Value} {Q : Unit → Shared → Prop} (I : Inv X pins σ H s) (e : H a = some (.ins C dx fs)) (c : Cls X.K C) (n : NoAttr X.K C f) (hl : fs.length < 1000) (ry : RelV y u)
    (h : ∀ s', Inv X pins σ (upd H a (.ins C dx (putF f y fs))) s' → Q () s') : wpAny (model X.prog X.w) A (setAttr (.ref a) f u) Q E s := by
  obtain ⟨mA, O, r, wi, _, ho⟩ := ins_get I.hok e
  have hz : (fs.map (·.1)).length ≤ sizeLine := by rw [List.length_map, sizeLine_eq]; omega
  refine set_map I.kIn O c.sa c.po n.taker c.hd wi hz fun h' O' sb => h _ ?_
  have hd : ∃ o, h'.get? dx = some o := let ⟨o, _, _, e', _⟩ := O'.ns; ⟨o, e'⟩
  refine I.write (x := a) (e := dx) (by rw [e]; exact True.intro) (.inr ho) (fun b q hb z => (sb.2 b hb).trans z) hd ?_
  refine ⟨by rw [upd_ne O.ne]; exact ho, ?_, O.ne, O'.obj, _, O'.ns, fun g => ?_, fun g hg => ?_⟩
  · have := length_putF f y fs; omega
  · show RelO ((putF f y fs).lookup g) (if g = f then some u else mA g)
    rw [lookup_putF]
    by_cases q : g = f
    · rw [if_pos q, if_pos q]; exact ry
    · rw [if_neg q, if_neg q]; exact r g
  · by_cases q : g = f
    · rw [q]; exact (keys_putF f y fs).1
    · refine (keys_putF f y fs).2 g (wi g fun z => hg ?_)
      show (if g = f then some u else mA g) = none
      rw [if_neg q]; exact z
theorem Inv.made (I : Inv X pins σ H s) : Inv X pins σ (upd (upd H s.heap.objs.size (.own (s.heap.objs.size + 1))) (s.heap.objs.size + 1) (.ins C s.heap.objs.size []))
    { s with heap := (s.heap.push PySem.W.emptyDict).push (PySem.W.instObj C s.heap.objs.size) } := by
  have e1 : (s.heap.push PySem.W.emptyDict).get? s.heap.objs.size = some PySem.W.emptyDict := Heap.get?_push_size s.heap rfl
  have e2 : ((s.heap.push PySem.W.emptyDict).push (PySem.W.instObj C s.heap.objs.size)).get? (s.heap.objs.size + 1) = some (PySem.W.instObj C s.heap.objs.size) := by
    have := Heap.get?_push_size (s.heap.push PySem.W.emptyDict) (o := PySem.W.instObj C s.heap.objs.size) rfl
    rwa [Heap.size_push] at this
  have e3 : (s.heap.push PySem.W.emptyDict).Ns s.heap.objs.size (fun _ => none) := ⟨PySem.W.emptyDict, #[], _, e1, rfl, (fun e he => absurd he (by simp)), fun _ => rfl⟩
  have I1 := I.laid (a := s.heap.objs.size) (o := .own (s.heap.objs.size + 1)) (h' := s.heap.push PySem.W.emptyDict) (t' := s.toks) (fun b u q => Heap.get?_push_of_some _ q) (Nat.le_refl _) ⟨_, e1⟩
  refine I1.laid (a := s.heap.objs.size + 1) (o := .ins C s.heap.objs.size []) (t' := s.toks) (fun b u q => Heap.get?_push_of_some _ q) (Nat.le_of_eq (Heap.size_push _ _)) ?_
  have ne : s.heap.objs.size ≠ s.heap.objs.size + 1 := Nat.ne_of_lt (Nat.lt_succ_self _)
  refine ⟨by rw [upd_ne ne, upd_same], Nat.zero_le _, ne, e2, fun _ => none, (Heap.Ns1.of_empty e3).at fun o q => Heap.get?_push_of_some _ q, fun _ => True.intro, fun y hy => absurd rfl hy⟩
theorem attr_of {prog : Program} {w : World} {env : Env} {e : Expr} {f : Str} {pos : Pos} {s : Shared} {Q : Value → Shared → Prop} (hb : attributeBase e f env (eval e env) = eval e env)
    (h : wpAny (model prog w) A (eval e env) (fun o s₁ => wpAny (model prog w) A (getAttr o f true) Q E s₁) E s) : wpAny (model prog w) A (eval (.Attribute e f pos) env) Q E s :=
  Attribute_any_ h (by rw [arm_eval_Attribute, hb])
end
def tFld (K : PySem.W.Frag) (ta : TE) (f : Str) : TE := fun σ H Q => ta σ H fun x H1 => ∃ a C dx fs v, x = .ref a ∧ H1 a = some (.ins C dx fs) ∧ Cls K C ∧ NoAttr K C f ∧ fs.lookup f = some v ∧ Q v H1
def tCon (K : PySem.W.Frag) (ta : TE) (f : Str) : TE := fun σ H Q => ta σ H fun x H1 => ∃ a C dx fs v u, x = .ref a ∧ H1 a = some (.ins C dx fs) ∧ Cls K C ∧ Con K C f v u ∧ fs.lookup f = none ∧ Q v H1
def sFld (K : PySem.W.Frag) (ta tv : TE) (f : Str) : TS := fun D σ H => tv σ H fun y H1 => ta σ H1 fun x H2 => ∃ a C dx fs, x = .ref a ∧ H2 a = some (.ins C dx fs) ∧ Cls K C ∧ NoAttr K C f ∧ fs.length < 1000 ∧
  D.nx σ (upd H2 a (.ins C dx (putF f y fs)))
def InOp (X : Cx) (op : Operator) (rd : V → V → Hp → VK → Prop) : Prop :=
  ∀ (pins : List (Addr × Obj)) (s : Shared) (σ : St) (H : Hp) (x y : V) (u v : Value) (Q : VK), Inv X pins σ H s → RelV x u → RelV y v → rd x y H Q → wpAny (model X.prog X.w) X.A (inplaceOp op u v) (EP X pins σ Q) X.xe s
def sFldAug (K : PySem.W.Frag) (ta tv : TE) (rd : V → V → Hp → VK → Prop) (f : Str) : TS := fun D σ H => ta σ H fun x H1 => ∃ a C dx fs v, x = .ref a ∧ H1 a = some (.ins C dx fs) ∧ Cls K C ∧ NoAttr K C f ∧ fs.lookup f = some v ∧
  tv σ H1 fun y H2 => rd v y H2 fun z H3 => ∃ dx' fs', H3 a = some (.ins C dx' fs') ∧ fs'.length < 1000 ∧ D.nx σ (upd H3 a (.ins C dx' (putF f z fs')))
section
variable {X : Cx} {o e value : Expr} {f : Str} {pos pos' tpos : Pos} {ta tv : TE}
theorem pe_fld (he : PE X e ta) (hb : attributeBase e f X.env (eval e X.env) = eval e X.env) : PE X (.Attribute e f pos) (tFld X.K ta f) := by
  intro pins s σ H Q I h
  refine attr_of hb (thn (he pins s σ H _ I h) fun u s1 ⟨x, H1, I1, rx, a, C, dx, fs, v, ex, ea, c, n, l, q⟩ => ?_)
  subst ex
  obtain rfl : u = Value.ref a := rx
  exact getattr_ok I1 ea c n l fun u' s2 I2 ru => ⟨v, H1, I2, ru, q⟩
theorem pe_con (he : PE X e ta) (hb : attributeBase e f X.env (eval e X.env) = eval e X.env) : PE X (.Attribute e f pos) (tCon X.K ta f) := by
  intro pins s σ H Q I h
  refine attr_of hb (thn (he pins s σ H _ I h) fun u s1 ⟨x, H1, I1, rx, a, C, dx, fs, v, u0, ex, ea, c, k, l, q⟩ => ?_)
  subst ex
  obtain rfl : u = Value.ref a := rx
  exact getcon_ok I1 ea c k l fun s2 I2 => ⟨v, H1, I2, k.rel, q⟩
theorem ps_fld (ha : PE X o ta) (hv : PE X value tv) (hs : swapsWith value (some (.Attribute o f pos')) pos.line X.env = pure false) : PS X (.Assign [.Attribute o f pos'] value pos) (sFld X.K ta tv f) := by
  intro pins s σ H D I h
  refine plainObj_wpAny_Assign_Attribute (thn (hv pins s σ H _ I h) fun u s1 ⟨y, H1, I1, ry, q⟩ => thn (ha pins s1 σ H1 _ I1 q) fun ov s2 ⟨x, H2, I2, rx, a, C, dx, fs, ex, ea, c, n, l, q2⟩ => ?_) hs
  subst ex
  obtain rfl : ov = Value.ref a := rx
  exact setattr_ok I2 ea c n l ry fun s3 I3 => ⟨σ, _, I3, q2⟩
theorem ps_fldaug {op : Operator} {rd : V → V → Hp → VK → Prop} (ha : PE X o ta) (hv : PE X value tv) (hop : InOp X op rd) : PS X (.AugAssign (.Attribute o f tpos) op value pos) (sFldAug X.K ta tv rd f) := by
  intro pins s σ H D I h
  refine wpAny_AugAssign_AttributeAny (thn (ha pins s σ H _ I h) fun ov s1 ⟨x, H1, I1, rx, a, C, dx, fs, v, ex, ea, c, n, l, q⟩ => ?_)
  subst ex
  obtain rfl : ov = Value.ref a := rx
  refine getattr_ok I1 ea c n l fun u s2 I2 ru => thn (hv pins s2 σ H1 _ I2 q) fun w3 s3 ⟨y, H2, I3, ry, q3⟩ => thn (hop pins s3 σ H2 v y u w3 _ I3 ru ry q3) fun w4 s4 ⟨z, H3, I4, rz, dx', fs', ea', l', q4⟩ => ?_
  exact setattr_ok I4 ea' c n l' rz fun s5 I5 => ⟨σ, _, I5, q4⟩
def rAdd : V → V → Hp → VK → Prop := fun x y H Q => ∃ i j, x = .int i ∧ y = .int j ∧ Q (.int (i + j)) H
def rSub : V → V → Hp → VK → Prop := fun x y H Q => ∃ i j, x = .int i ∧ y = .int j ∧ Q (.int (i - j)) H
theorem in_add : InOp X .Add rAdd := by
  rintro pins s σ H x y u v Q I rx ry ⟨i, j, rfl, rfl, q⟩
  obtain ⟨t, rfl⟩ := (show ∃ t, u = Value.int i t from rx)
  obtain ⟨t', rfl⟩ := (show ∃ t', v = Value.int j t' from ry)
  exact PyProof.Rows.iadd_int ⟨.int (i + j), H, I.tok _, ⟨_, rfl⟩, q⟩
theorem in_sub : InOp X .Sub rSub := by
  rintro pins s σ H x y u v Q I rx ry ⟨i, j, rfl, rfl, q⟩
  obtain ⟨t, rfl⟩ := (show ∃ t, u = Value.int i t from rx)
  obtain ⟨t', rfl⟩ := (show ∃ t', v = Value.int j t' from ry)
  exact PyProof.Rows.isub_int ⟨.int (i - j), H, I.tok _, ⟨_, rfl⟩, q⟩
theorem methcall_of {pl : Sem Bool} {m : Str} {apos : Pos} {args : List Expr} {pins : List (Addr × Obj)} {s : Shared} {σ : St} {H : Hp} {Q : Value → Shared → Prop} {te : TE} (he : PE X e te) (I : Inv X pins σ H s)
    (h : te σ H fun x H1 => ∃ a C dx fs g, x = .ref a ∧ H1 a = some (.ins C dx fs) ∧ Cls X.K C ∧ Meth X.K C m g ∧ fs.lookup m = none ∧
      ∀ s1, Inv X pins σ H1 s1 → wpAny (model X.prog X.w) X.A (callWith pos (.ref g) [.ref a] (backTo pos (starEach args X.env)) (backToKw pos (keywordEach [] X.env))) Q X.xe s1)
    (ht : eval (.Call (.Attribute e m apos) args [] pos) X.env = (do
      let ov ← eval e X.env
      standAt apos.atName
      let (f, first) ← holding [ov] (getMethod ov m pl)
      callWith pos f first (backTo pos (starEach args X.env)) (backToKw pos (keywordEach [] X.env)))) :
    wpAny (model X.prog X.w) X.A (eval (.Call (.Attribute e m apos) args [] pos) X.env) Q X.xe s := by
  refine PySem.W.methodCall_KW (pl := pl) (thn (he pins s σ H _ I h) fun u s1 ⟨x, H1, I1, rx, a, C, dx, fs, g, ex, ea, c, k, l, q⟩ => ?_) ht
  subst ex
  obtain rfl : u = Value.ref a := rx
  exact getmeth_ok I1 ea c k l (q s1 I1)
end
section
variable {X : Cx} {pins : List (Addr × Obj)} {σ : St} {H : Hp} {s : Shared} {A : Around} {E : Value → Shared → Prop} {Q : Value → Shared → Prop} {c : Value} {b : Bool}
inductive TyOf (K : PySem.W.Frag) (H : Hp) : V → Value → Prop where
  | non : TyOf K H .non (.type "NoneType")
  | bl (x : Bool) : TyOf K H (.bl x) (.type "bool")
  | int (i : Int) : TyOf K H (.int i) (.type "int")
  | str (x : Str) : TyOf K H (.str x) (.type "str")
  | flt (x : UInt64) : TyOf K H (.flt x) (.type "float")
  | lst {a : Addr} {xs : List V} (e : H a = some (.lst xs)) : TyOf K H (.ref a) (.type "list")
  | frz {a : Addr} {o : Obj} {xs : List V} (e : H a = some (.frz o (.lst xs))) : TyOf K H (.ref a) (.type "list")
  | tup {a : Addr} {xs : List V} (e : H a = some (.tup xs)) : TyOf K H (.ref a) (.type "tuple")
  | dK {a : Addr} {kvs : List (Key × V)} (e : H a = some (.dK kvs)) : TyOf K H (.ref a) (.type "dict")
  | dT {a : Addr} {kvs : List (List Key × V)} (e : H a = some (.dT kvs)) : TyOf K H (.ref a) (.type "dict")
  | ins {a C dx : Addr} {fs : List (Str × V)} (e : H a = some (.ins C dx fs)) (cl : Cls K C) (ha : PySem.W.findIn K (.ref C) "__class__" = some (some (.builtin "object.__class__")))
      (hn : PySem.W.specialIn K (.builtin "object.__class__") "__get__" = some (some (.builtin "getset_descriptor.__get__"))) (htk : PySem.W.takesIn K (.builtin "object.__class__") = some true)
      (hm : PySem.W.mroIn K C (.type "object") = some true) : TyOf K H (.ref a) (.ref C)
theorem isinst_ok {x : V} {u t : Value} (I : Inv X pins σ H s) (rx : RelV x u) (ty : TyOf X.K H x t) (e : PySem.W.kitOne X.K t c = some b) (h : ∀ tk, Q (.bool b) { s with toks := tk }) :
    wpAny (model X.prog X.w) A (call (.builtin "isinstance") [u, c]) Q E s := by
  cases ty with
  | non => cases (show u = Value.none from rx); exact PySem.W.kia_one PySem.W.kitx_none I.kIn True.intro e (fun z => nomatch z) h
  | bl y => cases (show u = Value.bool y from rx); exact PySem.W.kia_one PySem.W.kitx_bool I.kIn True.intro e (fun z => nomatch z) h
  | int i => obtain ⟨t, q⟩ := (show ∃ t, u = Value.int i t from rx); cases q; exact PySem.W.kia_one PySem.W.kitx_int I.kIn True.intro e (fun z => nomatch z) h
  | str y => obtain ⟨t, q⟩ := (show ∃ t, u = Value.str y t from rx); cases q; exact PySem.W.kia_one PySem.W.kitx_str I.kIn True.intro e (fun z => nomatch z) h
  | flt y => obtain ⟨t, q⟩ := (show ∃ t, u = Value.float y t from rx); cases q; exact PySem.W.kia_one PySem.W.kitx_float I.kIn True.intro e (fun z => nomatch z) h
  | @lst a xs ea =>
    cases (show u = Value.ref a from rx)
    obtain ⟨_, _, n, _, h1⟩ := (show ObjOk X.prog X.w H s.heap a (.lst xs) from I.hok a _ ea)
    exact PySem.W.kia_one PySem.W.kitx_list I.kIn ⟨_, h1, rfl⟩ e (fun z => nomatch z) h
  | @frz a ob xs ea =>
    cases (show u = Value.ref a from rx)
    obtain ⟨_, _, _, n, _, h1⟩ := (show ObjOk X.prog X.w H s.heap a (.frz ob (.lst xs)) from I.hok a _ ea)
    exact PySem.W.kia_one PySem.W.kitx_list I.kIn ⟨_, h1, rfl⟩ e (fun z => nomatch z) h
  | @tup a xs ea =>
    cases (show u = Value.ref a from rx)
    obtain ⟨_, _, _, p⟩ := (show ObjOk X.prog X.w H s.heap a (.tup xs) from I.hok a _ ea)
    obtain ⟨o, h1, h2, _⟩ := p
    exact PySem.W.kia_one PySem.W.kitx_tuple I.kIn ⟨o, h1, h2⟩ e (fun z => nomatch z) h
  | @dK a kvs ea =>
    cases (show u = Value.ref a from rx)
    obtain ⟨_, _, vs, _, p⟩ := (show ObjOk X.prog X.w H s.heap a (.dK kvs) from I.hok a _ ea)
    obtain ⟨o, es, ep, h1, h2, _⟩ := p
    exact PySem.W.kia_one PySem.W.kitx_dict I.kIn ⟨o, h1, h2.1⟩ e (fun z => nomatch z) h
  | @dT a kvs ea =>
    cases (show u = Value.ref a from rx)
    obtain ⟨_, _, xs, _, o, es, ep, h1, h2, _⟩ := (show ObjOk X.prog X.w H s.heap a (.dT kvs) from I.hok a _ ea)
    exact PySem.W.kia_one PySem.W.kitx_dict I.kIn ⟨o, h1, h2.1⟩ e (fun z => nomatch z) h
  | @ins a C dx fs ea cl ha hn htk hm =>
    cases (show u = Value.ref a from rx)
    obtain ⟨mA, O, _⟩ := ins_get I.hok ea
    obtain ⟨od, J, _⟩ := O.look
    exact PySem.W.kia_one (PySem.W.kitx_own (cl.get _) cl.hd ha hn htk hm) I.kIn J e (fun z => nomatch z) h
end
end L2
namespace L2
open PySem PySem.Spec PyProof.Rows
structure Room (k : Nat) (A : Around) : Prop where
  hd : A.handled = none
  dp : A.depth + 3 * k + 5 < recursionLimit
  un : A.units + 16 * k + 200 < cLine
  gd : A.guards = some [] := by rfl
theorem Room.mono {j k : Nat} {A : Around} (r : Room k A) (h : j ≤ k) : Room j A := ⟨r.hd, by have := r.dp; omega, by have := r.un; omega, r.gd⟩
theorem Room.deeper {k : Nat} {A : Around} (r : Room (k + 1) A) (env : Env) : Room k (A.deeper env) :=
  ⟨r.hd, by have := r.dp; show A.depth + 1 + 3 * k + 5 < _; omega, by have := r.un; show A.units + 3 + 16 * k + 200 < _; omega, r.gd⟩
theorem Room.in1 {k : Nat} {A : Around} (r : Room (k + 1) A) : Room k A.in1 :=
  ⟨r.hd, by have := r.dp; show A.depth + 3 * k + 5 < _; omega, by have := r.un; show A.units + 1 + 16 * k + 200 < _; omega, r.gd⟩
theorem make_depth {A : Around} {C : Addr} {us : List Value} {kw : List (Str × Value)} : (A.under (.builtin "type.__call__" ⟨.ref C :: us, kw⟩)).depth = A.depth + 1 := by
  first | rfl | simp [Around.under, Code.weight, Code.isCreation, Code.isGuard, Code.isCaller, Code.frames, Code.isFrame, guardIds]
theorem make_units {A : Around} {C : Addr} {us : List Value} {kw : List (Str × Value)} : (A.under (.builtin "type.__call__" ⟨.ref C :: us, kw⟩)).units = A.units + 1 := by
  first | rfl | simp [Around.under, Code.cUnits, Code.frames, Code.isFrame]
theorem make_guards {A : Around} {C : Addr} {us : List Value} {kw : List (Str × Value)} : (A.under (.builtin "type.__call__" ⟨.ref C :: us, kw⟩)).guards = A.guards := by
  first | rfl | (simp [Around.under, Code.guards, Code.isGuard, guardIds, pushGuards]; done) | (cases h : A.guards <;> simp [Around.under, Code.guards, Code.isGuard, guardIds, pushGuards, h])
theorem Room.make {k : Nat} {A : Around} (r : Room (k + 1) A) (C : Addr) (us : List Value) (kw : List (Str × Value)) : Room k (A.under (.builtin "type.__call__" ⟨.ref C :: us, kw⟩)) :=
  ⟨r.hd, by have := r.dp; rw [make_depth]; omega, by have := r.un; rw [make_units]; omega, by rw [make_guards]; exact r.gd⟩
theorem Room.depth {k : Nat} {A : Around} (r : Room k A) : A.depth < recursionLimit := by have := r.dp; omega
theorem Room.units {k : Nat} {A : Around} (r : Room k A) : A.units + 64 < cLine := by have := r.un; omega
theorem Room.units0 {k : Nat} {A : Around} (r : Room k A) : A.units < cLine := by have := r.un; omega
def tNil : TA := fun _ H Q => Q [] H
def tCons (ta : TE) (tr : TA) : TA := fun σ H Q => ta σ H fun x H1 => tr σ H1 fun xs H2 => Q (x :: xs) H2
section
variable {X : Cx} {e : Expr} {es : List Expr} {te : TE} {t : TA} {pos : Pos}
theorem pa_nil : PA X [] tNil := fun _ _ _ _ H Q I h => Calls.spliced_nil ⟨[], H, I, .nil, h⟩
theorem pa_cons (ha : PE X e te) (hr : PA X es t) (hs : starEach (e :: es) X.env = (false, eval e X.env) :: starEach es X.env := by rfl) : PA X (e :: es) (tCons te t) := by
  intro pos pins s σ H Q I h
  rw [hs]
  show wpAny _ _ (spliced ((false, eval e X.env) :: backTo pos (starEach es X.env))) _ _ s
  refine Calls.spliced_cons (thn (ha pins s σ H _ I h) fun u s1 ⟨x, H1, I1, r1, q1⟩ => ?_)
  exact thn (hr pos pins s1 σ H1 _ I1 q1) fun us s2 ⟨xs, H2, I2, r2, q2⟩ => ⟨x :: xs, H2, I2, .cons r1 r2, q2⟩
def tTup (t : TA) : TE := fun σ H Q => t σ H fun xs H1 => xs.length ≤ sizeLine ∧ ∀ p, H1 p = none → Q (.ref p) (upd H1 p (.tup xs))
def tLst (t : TA) : TE := fun σ H Q => t σ H fun xs H1 => xs.length ≤ sizeLine ∧ ∀ p, H1 p = none → Q (.ref p) (upd H1 p (.lst xs))
theorem pe_tup {x1} (h : PA X es t) : PE X (.Tuple es x1 pos) (tTup t) := by
  intro pins s σ H Q I hq
  refine wpAny_Tuple_spliced (thn (h pos pins s σ H _ I hq) fun us s1 ⟨xs, H1, I1, r, z, q⟩ => ⟨by rw [← r.length]; exact z, ?_⟩)
  have hf : H1 s1.heap.objs.size = none := I1.hok.fresh (Nat.le_refl _)
  refine ⟨.ref s1.heap.objs.size, upd H1 s1.heap.objs.size (.tup xs), I1.laid (t' := s1.toks) (fun b u e => Heap.get?_push_of_some _ e) (Nat.le_refl _) ?_, rfl, q _ hf⟩
  exact ⟨z, us, r, ⟨_, Heap.get?_push_size _ rfl, rfl, _, rfl⟩⟩
theorem pe_lst (h : PA X es t) : PE X (.List es pos) (tLst t) := by
  intro pins s σ H Q I hq
  refine wpAny_List_spliced (thn (h pos pins s σ H _ I hq) fun us s1 ⟨xs, H1, I1, r, z, q⟩ => ⟨by rw [← r.length]; exact z, ?_⟩)
  have hf : H1 s1.heap.objs.size = none := I1.hok.fresh (Nat.le_refl _)
  refine ⟨.ref s1.heap.objs.size, upd H1 s1.heap.objs.size (.lst xs), I1.laid (t' := s1.toks) (fun b u e => Heap.get?_push_of_some _ e) (Nat.le_refl _) ?_, rfl, q _ hf⟩
  exact ⟨z, us, 0, r, Heap.get?_push_size _ rfl⟩
end
abbrev Sp := List V → Hp → VK → XK → Prop
abbrev CXT := List Env → Hp → Shared → XK → Value → Shared → Prop
structure Env0 (P : Program) (w : World) (K : PySem.W.Frag) (mg : Str → Option Value) (base : Heap) (A : Around) (outer : List Env) (s : Shared) (H : Hp) : Prop where
  frames : A.frames = some outer
  mod : Mod K mg base
  bs : ∀ b o, base.get? b = some o → s.heap.get? b = some o ∧ H b = none
  bsz : base.objs.size ≤ s.heap.objs.size
  funs : s.heap.FunFrames base outer
  frf : ∀ b ∈ frs outer, H b = none
  hok : HOk P w H s.heap
  bare : AllBare s.gens
def CE (outer : List Env) (P : Program) (w : World) (H : Hp) (s : Shared) (Q : VK) (u : Value) (s' : Shared) : Prop :=
  ∃ v H', s'.os = s.os ∧ AllBare s'.gens ∧ Un (frs outer) [] H H' s.heap s'.heap ∧ HOk P w H' s'.heap ∧ RelV v u ∧ Q v H'
def CR (CX : CXT) (outer : List Env) (P : Program) (w : World) (H : Hp) (s : Shared) (Q : VK) (E : XK) (r : Result) (s' : Shared) : Prop :=
  match r with
  | .ok (.ret u) => CE outer P w H s Q u s'
  | .ok _ => False
  | .error e => CX outer H s E e s'
structure FnOk (P : Program) (w : World) (K : PySem.W.Frag) (mg : Str → Option Value) (base : Heap) (CX : CXT) (k : Nat) (f : Addr) (fd : FuncData) (ps : List Str) (sp : Sp) : Prop where
  len : ∀ vs H Q E, sp vs H Q E → vs.length = ps.length
  run : ∀ (A : Around) (outer : List Env) (s : Shared) (H : Hp) (args : Args) (us : List Value) (vs : List V) (Q : VK) (E : XK), Room k A → Env0 P w K mg base A outer s H → BindsTo s fd args (ps.zip us) → Vals vs us → sp vs H Q E →
    codeAny (model P w) A (.call (.ref f) args) (CR CX outer P w H s Q E) s
theorem FnOk.mono {P : Program} {w : World} {K : PySem.W.Frag} {mg : Str → Option Value} {base : Heap} {CX : CXT} {j k : Nat} {f : Addr} {fd : FuncData} {ps : List Str} {sp : Sp} (F : FnOk P w K mg base CX j f fd ps sp) (h : j ≤ k) :
    FnOk P w K mg base CX k f fd ps sp := ⟨F.len, fun A outer s H args us vs Q E hr => F.run A outer s H args us vs Q E (hr.mono h)⟩
theorem FnOk.imp {P : Program} {w : World} {K : PySem.W.Frag} {mg : Str → Option Value} {base : Heap} {CX : CXT} {k : Nat} {f : Addr} {fd : FuncData} {ps : List Str} {sp sp' : Sp} (F : FnOk P w K mg base CX k f fd ps sp)
    (h : ∀ vs H Q E, sp' vs H Q E → sp vs H Q E) : FnOk P w K mg base CX k f fd ps sp' :=
  ⟨fun vs H Q E q => F.len vs H Q E (h _ _ _ _ q), fun A outer s H args us vs Q E hr he hb hv hs => F.run A outer s H args us vs Q E hr he hb hv (h _ _ _ _ hs)⟩
theorem Env0.make {P : Program} {w : World} {K : PySem.W.Frag} {mg : Str → Option Value} {base : Heap} {A : Around} {outer : List Env} {s : Shared} {H : Hp} (e : Env0 P w K mg base A outer s H) (C : Addr) (us : List Value) (kw : List (Str × Value)) :
    Env0 P w K mg base (A.under (.builtin "type.__call__" ⟨.ref C :: us, kw⟩)) outer s H := ⟨by first | exact e.frames | (simpa [Around.under, Code.envs, Code.isFrame, pushEnvs] using e.frames), e.mod, e.bs, e.bsz, e.funs, e.frf, e.hok, e.bare⟩
theorem Env0.in1 {P : Program} {w : World} {K : PySem.W.Frag} {mg : Str → Option Value} {base : Heap} {A : Around} {outer : List Env} {s : Shared} {H : Hp} (e : Env0 P w K mg base A outer s H) :
    Env0 P w K mg base A.in1 outer s H := ⟨e.frames, e.mod, e.bs, e.bsz, e.funs, e.frf, e.hok, e.bare⟩
section
variable {X : Cx} {pins : List (Addr × Obj)} {σ : St} {H : Hp} {s s' : Shared}
theorem Inv.env0 (I : Inv X pins σ H s) : Env0 X.prog X.w X.K X.mg X.base X.A X.stack s H :=
  ⟨I.ok.frames, I.ok.mod, I.bs, Nat.le_trans I.ok.bsz I.sz, I.stack, I.stkFree, I.hok, I.bare⟩
theorem Inv.after {Q : VK} {u : Value} (I : Inv X pins σ H s) (h : CE X.stack X.prog X.w H s Q u s') : EP X pins σ Q u s' := by
  obtain ⟨v, H', os, bare, un, hok, r, q⟩ := h
  obtain ⟨hh, g, d, t, os'⟩ := s'
  obtain rfl : os' = s.os := os
  exact ⟨v, H', I.call (h' := hh) (g' := g) (d' := d) (t' := t) (ch := []) un hok bare (fun b z => absurd z (by simp)), r, q⟩
end
def tCall (sp : Sp) (dvs : List V) (E : XK) (t : TA) : TE := fun σ H Q => t σ H fun vs H1 => sp (vs ++ dvs) H1 Q E
def tMeth (C : Addr) (m : Str) (sp : Sp) (dvs : List V) (E : XK) (ta : TE) (t : TA) : TE := fun σ H Q => ta σ H fun x H1 => ∃ a dx fs, x = .ref a ∧ H1 a = some (.ins C dx fs) ∧ fs.lookup m = none ∧
  t σ H1 fun vs H2 => sp (x :: (vs ++ dvs)) H2 Q E
def tMake (C : Addr) (sp : Sp) (dvs : List V) (E : XK) (t : TA) : TE := fun σ H Q => t σ H fun vs H1 => ∀ x dx, H1 x = none → H1 dx = none → dx ≠ x →
  sp (.ref x :: (vs ++ dvs)) (upd (upd H1 dx (.own x)) x (.ins C dx [])) (fun v H2 => v = .non ∧ Q (.ref x) H2) E
def Binds (K : PySem.W.Frag) (fd : FuncData) (ps : List Str) (ds : List Value) : Prop :=
  ∀ (s : Shared) (us : List Value), K.In s.heap → (us ++ ds).length = ps.length → BindsTo s fd ⟨us, []⟩ (ps.zip (us ++ ds))
theorem Binds.all {K : PySem.W.Frag} {fd : FuncData} {ps : List Str} (h : ∀ us : List Value, us.length = ps.length → bindArgs fd ⟨us, []⟩ = pure (ps.zip us)) : Binds K fd ps [] := fun s us _ hl => by
  rw [List.append_nil] at hl ⊢
  exact .of_eq (h us hl)
def Passes (CX : CXT) (X : Cx) (E : XK) : Prop := ∀ (pins : List (Addr × Obj)) (σ : St) (H : Hp) (s : Shared) (e : Value) (s' : Shared), Inv X pins σ H s → CX X.stack H s E e s' → X.xe e s'
section
variable {X : Cx} {CX : CXT} {k : Nat} {f C : Addr} {fd : FuncData} {ps : List Str} {sp : Sp} {dvs : List V} {ds : List Value} {E : XK} {x m : Str} {p pos apos : Pos} {e o : Expr} {es : List Expr} {ta : TE} {t : TA}
theorem run_fn {pins : List (Addr × Obj)} {σ : St} {H : Hp} {s : Shared} {Q : VK} {us : List Value} {vs : List V} (F : FnOk X.prog X.w X.K X.mg X.base CX k f fd ps sp) (hr : Room k X.A) (hb : Binds X.K fd ps ds) (hd : Vals dvs ds) (hx : Passes CX X E)
    (I : Inv X pins σ H s) (r : Vals vs us) (h : sp (vs ++ dvs) H Q E) : wpAny (model X.prog X.w) X.A (call (.ref f) us) (EP X pins σ Q) X.xe s := by
  have r2 : Vals (vs ++ dvs) (us ++ ds) := r.append hd
  have hl : (us ++ ds).length = ps.length := by rw [← r2.length]; exact F.len _ _ _ _ h
  refine wpAny_call (codeAny_mono (F.run X.A X.stack s H ⟨us, []⟩ (us ++ ds) (vs ++ dvs) Q E hr I.env0 (hb s us I.kIn hl) r2 h) fun r s' hq => ?_)
  cases r with
  | error e => exact hx pins σ H s e s' I hq
  | ok fl =>
    cases fl with
    | ret u => exact I.after hq
    | next => exact False.elim hq
    | brk => exact False.elim hq
    | cont => exact False.elim hq
theorem pe_call (F : FnOk X.prog X.w X.K X.mg X.base CX k f fd ps sp) (hr : Room k X.A) (hg : Gl X x) (hm : X.mg x = some (.ref f)) (hk : PySem.W.keepIn X.K (.ref f) = true) (hb : Binds X.K fd ps ds) (hd : Vals dvs ds) (hx : Passes CX X E)
    (ha : PA X (e :: es) t) (hdb : (x == ("__debug__" : Str)) = false := by decide) (he : starEach (e :: es) X.env = (false, eval e X.env) :: starEach es X.env := by rfl) (hpl : (backTo pos (starEach es X.env)).any (·.1) = false := by rfl) :
    PE X (.Call (.Name x p) (e :: es) [] pos) (tCall sp dvs E t) := by
  intro pins s σ H Q I h
  refine wpAny_Call_Name_kw (ld_glob I hg hm ?_ hdb)
  refine PySem.W.callWith_K (h₀ := X.base) I.ok.mod.kin hk (thn (ha pos pins s σ H _ I h) fun us s1 ⟨vs, H1, I1, r, q⟩ => ⟨I1.kIn, ?_⟩) he hpl
  exact run_fn F hr hb hd hx I1 r q
theorem pe_call0 (F : FnOk X.prog X.w X.K X.mg X.base CX k f fd ps sp) (hr : Room k X.A) (hg : Gl X x) (hm : X.mg x = some (.ref f)) (hk : PySem.W.keepIn X.K (.ref f) = true) (hb : Binds X.K fd ps ds) (hd : Vals dvs ds) (hx : Passes CX X E)
    (hdb : (x == ("__debug__" : Str)) = false := by decide) : PE X (.Call (.Name x p) [] [] pos) (tCall sp dvs E tNil) := by
  intro pins s σ H Q I h
  refine wpAny_Call_Name_kw (ld_glob I hg hm ?_ hdb)
  exact PySem.W.callWith_K0 I.kIn hk (run_fn (us := []) F hr hb hd hx I .nil h)
theorem pe_meth {pl : Sem Bool} (he : PE X o ta) (c : Cls X.K C) (hm : Meth X.K C m f) (F : FnOk X.prog X.w X.K X.mg X.base CX k f fd ps sp) (hr : Room k X.A) (hb : Binds X.K fd ps ds) (hd : Vals dvs ds) (hx : Passes CX X E) (ha : PA X (e :: es) t)
    (hst : starEach (e :: es) X.env = (false, eval e X.env) :: starEach es X.env := by rfl) (hpl : (backTo pos (starEach es X.env)).any (·.1) = false := by rfl)
    (ht : eval (.Call (.Attribute o m apos) (e :: es) [] pos) X.env = (do
      let ov ← eval o X.env
      standAt apos.atName
      let (f, first) ← holding [ov] (getMethod ov m pl)
      callWith pos f first (backTo pos (starEach (e :: es) X.env)) (backToKw pos (keywordEach [] X.env))) := by rfl) :
    PE X (.Call (.Attribute o m apos) (e :: es) [] pos) (tMeth C m sp dvs E ta t) := by
  intro pins s σ H Q I h
  refine PySem.W.methodCall_KW (pl := pl) (thn (he pins s σ H _ I h) fun u s1 ⟨x, H1, I1, rx, a, dx, fs, ex, ea, l, q⟩ => ?_) ht
  subst ex
  obtain rfl : u = Value.ref a := rx
  refine getmeth_ok I1 ea c hm l ?_
  refine PySem.W.callWith_K (first := [.ref a]) (h₀ := X.base) I.ok.mod.kin hm.kp (thn (ha pos pins s1 σ H1 _ I1 q) fun us s2 ⟨vs, H2, I2, r, q2⟩ => ⟨I2.kIn, ?_⟩) hst hpl
  exact run_fn (us := .ref a :: us) (vs := .ref a :: vs) F hr hb hd hx I2 (.cons rfl r) q2
theorem pe_meth0 {pl : Sem Bool} (he : PE X o ta) (c : Cls X.K C) (hm : Meth X.K C m f) (F : FnOk X.prog X.w X.K X.mg X.base CX k f fd ps sp) (hr : Room k X.A) (hb : Binds X.K fd ps ds) (hd : Vals dvs ds) (hx : Passes CX X E)
    (ht : eval (.Call (.Attribute o m apos) [] [] pos) X.env = (do
      let ov ← eval o X.env
      standAt apos.atName
      let (f, first) ← holding [ov] (getMethod ov m pl)
      callWith pos f first (backTo pos (starEach [] X.env)) (backToKw pos (keywordEach [] X.env))) := by rfl) :
    PE X (.Call (.Attribute o m apos) [] [] pos) (tMeth C m sp dvs E ta tNil) := by
  intro pins s σ H Q I h
  refine PySem.W.methodCall_KW (pl := pl) (thn (he pins s σ H _ I h) fun u s1 ⟨x, H1, I1, rx, a, dx, fs, ex, ea, l, q⟩ => ?_) ht
  subst ex
  obtain rfl : u = Value.ref a := rx
  refine getmeth_ok I1 ea c hm l ?_
  exact PySem.W.callWith_K0 (first := [.ref a]) I1.kIn hm.kp (run_fn (us := [.ref a]) (vs := [.ref a]) F hr hb hd hx I1 (.cons rfl .nil) q)
structure Mk (K : PySem.W.Frag) (C f : Addr) : Prop where
  makes : PySem.W.makesIn K C = true
  init : PySem.W.findIn K (.ref C) "__init__" = some (some (.ref f))
  fn : PySem.W.isFn K (.ref f) = true
  kp : PySem.W.keepIn K (.ref C) = true
theorem run_make {pins : List (Addr × Obj)} {σ : St} {H : Hp} {s : Shared} {Q : VK} {us : List Value} {vs : List V} (M : Mk X.K C f) (F : FnOk X.prog X.w X.K X.mg X.base CX k f fd ps sp) (hr : Room (k + 1) X.A) (hb : Binds X.K fd ps ds) (hd : Vals dvs ds)
    (hx : Passes CX X E) (I : Inv X pins σ H s) (r : Vals vs us)
    (h : ∀ x dx, H x = none → H dx = none → dx ≠ x → sp (.ref x :: (vs ++ dvs)) (upd (upd H dx (.own x)) x (.ins C dx [])) (fun v H2 => v = .non ∧ Q (.ref x) H2) E) :
    wpAny (model X.prog X.w) X.A (call (.ref C) us) (EP X pins σ Q) X.xe s := by
  have hq := h (s.heap.objs.size + 1) s.heap.objs.size (I.hok.fresh (Nat.le_succ _)) (I.hok.fresh (Nat.le_refl _)) (Nat.ne_of_lt (Nat.lt_succ_self _))
  have I2 := Inv.made (C := C) I
  have r2 : Vals (V.ref (s.heap.objs.size + 1) :: (vs ++ dvs)) (Value.ref (s.heap.objs.size + 1) :: (us ++ ds)) := .cons rfl (r.append hd)
  have hl : (Value.ref (s.heap.objs.size + 1) :: us ++ ds).length = ps.length := by
    have e := r2.length
    rw [F.len _ _ _ _ hq] at e
    exact e.symm
  refine wpAny_call (make_map (f := f) I.kIn M.makes M.init (beq_iff_eq.mp M.fn) (codeAny_mono (F.run _ X.stack _ _ ⟨Value.ref (s.heap.objs.size + 1) :: us, []⟩ (Value.ref (s.heap.objs.size + 1) :: (us ++ ds)) _ _ E (hr.make C us [])
    (I2.env0.make C us []) (hb _ (Value.ref (s.heap.objs.size + 1) :: us) I2.kIn hl) r2 hq) fun r s' hq' => ?_))
  cases r with
  | error e => exact hx pins σ _ _ e s' I2 hq'
  | ok fl =>
    cases fl with
    | ret u =>
      obtain ⟨v, H', I3, rv, ev, q3⟩ := I2.after hq'
      subst ev
      exact ⟨rv, ⟨V.ref (s.heap.objs.size + 1), H', I3, rfl, q3⟩⟩
    | next => exact False.elim hq'
    | brk => exact False.elim hq'
    | cont => exact False.elim hq'
theorem pe_make (M : Mk X.K C f) (F : FnOk X.prog X.w X.K X.mg X.base CX k f fd ps sp) (hr : Room (k + 1) X.A) (hg : Gl X x) (hm : X.mg x = some (.ref C)) (hb : Binds X.K fd ps ds) (hd : Vals dvs ds) (hx : Passes CX X E)
    (ha : PA X (e :: es) t) (hdb : (x == ("__debug__" : Str)) = false := by decide) (he : starEach (e :: es) X.env = (false, eval e X.env) :: starEach es X.env := by rfl) (hpl : (backTo pos (starEach es X.env)).any (·.1) = false := by rfl) :
    PE X (.Call (.Name x p) (e :: es) [] pos) (tMake C sp dvs E t) := by
  intro pins s σ H Q I h
  refine wpAny_Call_Name_kw (ld_glob I hg hm ?_ hdb)
  refine PySem.W.callWith_K (h₀ := X.base) I.ok.mod.kin M.kp (thn (ha pos pins s σ H _ I h) fun us s1 ⟨vs, H1, I1, r, q⟩ => ⟨I1.kIn, ?_⟩) he hpl
  exact run_make M F hr hb hd hx I1 r q
theorem pe_make0 (M : Mk X.K C f) (F : FnOk X.prog X.w X.K X.mg X.base CX k f fd ps sp) (hr : Room (k + 1) X.A) (hg : Gl X x) (hm : X.mg x = some (.ref C)) (hb : Binds X.K fd ps ds) (hd : Vals dvs ds) (hx : Passes CX X E)
    (hdb : (x == ("__debug__" : Str)) = false := by decide) : PE X (.Call (.Name x p) [] [] pos) (tMake C sp dvs E tNil) := by
  intro pins s σ H Q I h
  refine wpAny_Call_Name_kw (ld_glob I hg hm ?_ hdb)
  exact PySem.W.callWith_K0 I.kIn M.kp (run_make (us := []) M F hr hb hd hx I .nil h)
end
def PK (X : Cx) (kws : List Keyword) (t : TA) : Prop :=
  ∀ (pos : Pos) (pins : List (Addr × Obj)) (s : Shared) (σ : St) (H : Hp) (Q : List V → Hp → Prop), Inv X pins σ H s → t σ H Q → wpAny (model X.prog X.w) X.A (evalAll ((backToKw pos (keywordEach kws X.env)).map (·.2))) (AP X pins σ Q) X.xe s
section
variable {X : Cx} {CX : CXT} {k : Nat} {f C : Addr} {fd : FuncData} {ps ks : List Str} {sp : Sp} {E : XK} {x m : Str} {p pos apos kpos : Pos} {e o : Expr} {es : List Expr} {kws : List Keyword} {te ta : TE} {t tk : TA} {nm : Option Str}
theorem pk_nil : PK X [] tNil := fun _ _ _ _ H Q I h => wpAny_evalAll_nil ⟨[], H, I, .nil, h⟩
theorem pk_cons (ha : PE X e te) (hr : PK X kws t) : PK X (⟨nm, e, kpos⟩ :: kws) (tCons te t) := by
  intro pos pins s σ H Q I h
  show wpAny _ _ (evalAll ((do let v ← eval e X.env; standAt pos; pure v) :: (backToKw pos (keywordEach kws X.env)).map (·.2))) _ _ s
  refine wpAny_evalAll_cons (wpAny_bind (thn (ha pins s σ H _ I h) fun u s1 ⟨x, H1, I1, r1, q1⟩ => wpAny_bind (wpAny_standAt (wpAny_pure ?_))))
  exact thn (hr pos pins s1 σ H1 _ I1 q1) fun us s2 ⟨xs, H2, I2, r2, q2⟩ => ⟨x :: xs, H2, I2, .cons r1 r2, q2⟩
structure KBinds (K : PySem.W.Frag) (fd : FuncData) (ps ks : List Str) (g : List Value → List Value → List Value) (gV : List V → List V → List V) : Prop where
  to : ∀ (s : Shared) (us ws : List Value), K.In s.heap → (g us ws).length = ps.length → BindsTo s fd ⟨us, ks.zip ws⟩ (ps.zip (g us ws))
  rel : ∀ {vs : List V} {us : List Value} {zs : List V} {ws : List Value}, Vals vs us → Vals zs ws → Vals (gV vs zs) (g us ws)
def tCallK (sp : Sp) (gV : List V → List V → List V) (E : XK) (t tk : TA) : TE := fun σ H Q => t σ H fun vs H1 => tk σ H1 fun zs H2 => sp (gV vs zs) H2 Q E
variable {g : List Value → List Value → List Value} {gV : List V → List V → List V}
theorem run_fnk {pins : List (Addr × Obj)} {σ : St} {H : Hp} {s : Shared} {Q : VK} {us ws : List Value} {vs zs : List V} (F : FnOk X.prog X.w X.K X.mg X.base CX k f fd ps sp) (hr : Room k X.A) (hb : KBinds X.K fd ps ks g gV) (hx : Passes CX X E)
    (I : Inv X pins σ H s) (r : Vals vs us) (rz : Vals zs ws) (h : sp (gV vs zs) H Q E) : wpAny (model X.prog X.w) X.A (call (.ref f) us (ks.zip ws)) (EP X pins σ Q) X.xe s := by
  have r2 := hb.rel r rz
  have hl : (g us ws).length = ps.length := by rw [← r2.length]; exact F.len _ _ _ _ h
  refine wpAny_call (codeAny_mono (F.run X.A X.stack s H ⟨us, ks.zip ws⟩ (g us ws) (gV vs zs) Q E hr I.env0 (hb.to s us ws I.kIn hl) r2 h) fun r s' hq => ?_)
  cases r with
  | error e => exact hx pins σ H s e s' I hq
  | ok fl =>
    cases fl with
    | ret u => exact I.after hq
    | next => exact False.elim hq
    | brk => exact False.elim hq
    | cont => exact False.elim hq
theorem pe_callK (F : FnOk X.prog X.w X.K X.mg X.base CX k f fd ps sp) (hr : Room k X.A) (hg : Gl X x) (hm : X.mg x = some (.ref f)) (hk : PySem.W.keepIn X.K (.ref f) = true) (hb : KBinds X.K fd ps ks g gV) (hx : Passes CX X E)
    (ha : PA X (e :: es) t) (hkw : PK X kws tk) (hall : (backToKw pos (keywordEach kws X.env)).all (·.1.isSome) = true := by rfl) (hks : (backToKw pos (keywordEach kws X.env)).filterMap (·.1) = ks := by rfl)
    (hdb : (x == ("__debug__" : Str)) = false := by decide) (he : starEach (e :: es) X.env = (false, eval e X.env) :: starEach es X.env := by rfl)
    (hpl : ((backTo pos (starEach (e :: es) X.env)).any (·.1) || (backToKw pos (keywordEach kws X.env)).any (·.1.isNone)) = false := by rfl) :
    PE X (.Call (.Name x p) (e :: es) kws pos) (tCallK sp gV E t tk) := by
  intro pins s σ H Q I h
  refine wpAny_Call_Name_kw (ld_glob I hg hm ?_ hdb)
  refine PySem.W.callWith_KW (h₀ := X.base) I.ok.mod.kin hk hall (thn (ha pos pins s σ H _ I h) fun us s1 ⟨vs, H1, I1, r, q⟩ => ?_) hpl he
  refine thn (hkw pos pins s1 σ H1 _ I1 q) fun ws s2 ⟨zs, H2, I2, rz, q2⟩ => ⟨I2.kIn, ?_⟩
  rw [hks]
  exact run_fnk F hr hb hx I2 r rz q2
end
structure FnScope (N P : List Str) (sc : Scope) : Prop where
  kind : sc.kind = .function
  co : sc.isCoroutine = false
  gen : sc.isGenerator = false
  nd : N.Nodup
  pre : N.take P.length = P
  par : ∀ x ∈ P, sc.names.lookup x = some .local ∨ sc.names.lookup x = some .cell
  nofree : ∀ y ∈ sc.names, y.2 ≠ .free
theorem bindL_out {kindOf : Str → Option NameKind} {x : Str} : ∀ {binds : List (Str × Value)} {m : Str → Option Value}, (∀ v, (x, v) ∉ binds) → bindL kindOf binds m x = m x
  | [], _, _ => rfl
  | (n, v) :: r, m, h => by
    unfold bindL
    rw [bindL_out fun w hw => h w (List.mem_cons_of_mem _ hw)]
    split
    · have : x ≠ n := by rintro rfl; exact h v List.mem_cons_self
      simp [this]
    · rfl
theorem bindC_out {kindOf : Str → Option NameKind} {x : Str} : ∀ {binds : List (Str × Value)} {m : Str → Option Value}, (∀ v, (x, v) ∉ binds) → bindC kindOf binds m x = m x
  | [], _, _ => rfl
  | (n, v) :: r, m, h => by
    unfold bindC
    rw [bindC_out fun w hw => h w (List.mem_cons_of_mem _ hw)]
    split
    · rfl
    · have : x ≠ n := by rintro rfl; exact h v List.mem_cons_self
      simp [this]
theorem bindL_get {kindOf : Str → Option NameKind} {x : Str} {v : Value} : ∀ {P : List Str} {vs : List Value} {i : Nat} {m : Str → Option Value}, P.Nodup → P[i]? = some x → vs[i]? = some v → kindOf x = some .local →
    bindL kindOf (P.zip vs) m x = some v
  | [], _, _, _, _, h, _, _ => by simp at h
  | _ :: _, [], _, _, _, _, h, _ => by simp at h
  | p :: P, w :: vs, 0, m, nd, h1, h2, hk => by
    simp at h1 h2; subst h1; subst h2
    show bindL kindOf ((p, w) :: P.zip vs) m p = _
    unfold bindL
    rw [bindL_out fun v hv => (List.nodup_cons.mp nd).1 (List.of_mem_zip hv).1, if_pos hk]
    simp
  | p :: P, w :: vs, i + 1, m, nd, h1, h2, hk => by
    show bindL kindOf ((p, w) :: P.zip vs) m x = _
    unfold bindL
    exact bindL_get (i := i) (List.nodup_cons.mp nd).2 (by simpa using h1) (by simpa using h2) hk
theorem bindC_get {kindOf : Str → Option NameKind} {x : Str} {v : Value} : ∀ {P : List Str} {vs : List Value} {i : Nat} {m : Str → Option Value}, P.Nodup → P[i]? = some x → vs[i]? = some v → kindOf x ≠ some .local →
    bindC kindOf (P.zip vs) m x = some v
  | [], _, _, _, _, h, _, _ => by simp at h
  | _ :: _, [], _, _, _, _, h, _ => by simp at h
  | p :: P, w :: vs, 0, m, nd, h1, h2, hk => by
    simp at h1 h2; subst h1; subst h2
    show bindC kindOf ((p, w) :: P.zip vs) m p = _
    unfold bindC
    rw [bindC_out fun v hv => (List.nodup_cons.mp nd).1 (List.of_mem_zip hv).1, if_neg hk]
    simp
  | p :: P, w :: vs, i + 1, m, nd, h1, h2, hk => by
    show bindC kindOf ((p, w) :: P.zip vs) m x = _
    unfold bindC
    exact bindC_get (i := i) (List.nodup_cons.mp nd).2 (by simpa using h1) (by simpa using h2) hk
def start (N : List Str) (vs : List V) : St := vs.map some ++ List.replicate (N.length - vs.length) none
def cxOf (CX : CXT) (P : Program) (w : World) (K : PySem.W.Frag) (mg : Str → Option Value) (base : Heap) (N : List Str) (qual : Str) (scope : Scope) (f : Addr) (cd : Value) (A : Around) (outer : List Env) (s : Shared) (H : Hp) (E : XK) : Cx where
  prog := P
  w := w
  K := K
  mg := mg
  base := base
  A := A.deeper (envOfC qual scope s.heap.objs.size f cd)
  N := N
  s₀ := s
  H₀ := H
  env := envOfC qual scope s.heap.objs.size f cd
  outer := outer
  stack := envOfC qual scope s.heap.objs.size f cd :: outer
  ex := []
  calm := true
  fn := fun _ => true
  pn := []
  xe := fun e s' => wpAny (model P w) (A.deeper (envOfC qual scope s.heap.objs.size f cd)) (leaving (envOfC qual scope s.heap.objs.size f cd) e) (fun _ s'' => CX outer H s E e s'') (fun e' s'' => CX outer H s E e' s'') s'
theorem cell_has {sc : Scope} {n : Nat} {x : Str} (h : sc.names.lookup x = some .cell) : ∃ c, (cellsFrom n sc.names []).lookup x = some c := by
  have q := PySem.W.cellsFrom_some sc.names n [] (.inl h)
  exact Option.isSome_iff_exists.mp q
theorem inv_start {CX : CXT} {P : Program} {w : World} {K : PySem.W.Frag} {mg : Str → Option Value} {base : Heap} {N ps : List Str} {qual : Str} {scope : Scope} {f : Addr} {cd : Value} {A : Around} {outer : List Env} {s s1 : Shared} {H : Hp} {E : XK} {us : List Value} {vs : List V}
    (S : FnScope N ps scope) (hd : A.handled = none) (e0 : Env0 P w K mg base A outer s H) (hl : vs.length = ps.length) (r : Vals vs us)
    (x : InCallC s s.heap.objs.size (bindL (envOfC qual scope s.heap.objs.size f cd).kindOf (ps.zip us) fun _ => none) (cellsFrom (s.heap.objs.size + 1) scope.names []) (bindC (envOfC qual scope s.heap.objs.size f cd).kindOf (ps.zip us) fun _ => none) s1) :
    Inv (cxOf CX P w K mg base N qual scope f cd A outer s H E) [] (start N vs) H s1 := by
  have hpl : ps.length ≤ N.length := by have := congrArg List.length S.pre; rw [List.length_take] at this; omega
  obtain ⟨h1, tk, rfl, hk⟩ := x.done
  have noA : ∀ b : Addr, b ∉ (cxOf CX P w K mg base N qual scope f cd A outer s H E).ex := fun b z => absurd (show b ∈ ([] : List Addr) from z) (by simp)
  refine ⟨⟨e0.mod, S.kind, rfl, rfl, Nat.le_refl _, fun y z c h1 h2 => ?_, fun y hy => ?_, fun y c _ h => ?_, fun _ => hd, Around.frames_deeper e0.frames, .inr ⟨rfl, rfl⟩, fun b z => absurd z (noA b), e0.bs, e0.bsz, fun b _ _ => noA b, fun b z => absurd z (noA b), e0.funs, e0.frf⟩,
    rfl, e0.bare, Un.kept hk, ⟨_, x.toInCall.ns, fun i y v h1 h2 h3 => ?_⟩, fun y c h => ⟨_, x.cell y c h⟩, e0.hok.fresh (Nat.le_refl _), fun y c h => ?_, fun p hp => absurd (show p ∈ ([] : List (Addr × Obj)) from hp) (by simp), e0.hok.kept hk, ?_⟩
  · exact name_of_addr x.apart (PySem.mem_of_lookup h1) (PySem.mem_of_lookup h2)
  · have hy : scope.names.lookup y = some .cell ∨ scope.names.lookup y = some .free := hy
    rcases hy with hy | hy
    · exact cell_has hy
    · exact absurd rfl (S.nofree _ (PySem.mem_of_lookup hy))
  · exact Nat.le_of_lt (x.above y c (PySem.mem_of_lookup h))
  · have hi : i < vs.length := by
      unfold start at h2
      by_cases hi : i < vs.length
      · exact hi
      · rw [List.getElem?_append_right (by simpa using hi)] at h2
        rw [List.getElem?_replicate] at h2
        split at h2 <;> cases h2
    have ha : vs[i]? = some v := by
      unfold start at h2
      rw [List.getElem?_append_left (by simpa using hi), List.getElem?_map] at h2
      cases e : vs[i]? with
      | none => rw [e] at h2; cases h2
      | some a => rw [e] at h2; cases h2; rfl
    obtain ⟨u, hu, rv⟩ := r.get ha
    have hp : ps[i]? = some y := by
      rw [← S.pre, List.getElem?_take_of_lt (by omega)]; exact h1
    have ndP : ps.Nodup := by rw [← S.pre]; exact S.nd.sublist (List.take_sublist _ _)
    refine ⟨u, rv, ?_⟩
    rcases S.par y (List.mem_of_getElem? hp) with k | k
    · exact .inl ⟨k, bindL_get ndP hp hu k⟩
    · obtain ⟨c, e⟩ := cell_has (n := s.heap.objs.size + 1) k
      refine .inr ⟨.inl k, c, e, ?_⟩
      have q := x.cell y c e
      rw [bindC_get ndP hp hu (by show scope.names.lookup y ≠ _; rw [k]; decide)] at q
      exact q
  · exact e0.hok.fresh (Nat.le_of_lt (x.above y c (PySem.mem_of_lookup h)))
  · unfold start
    show _ = N.length
    rw [List.length_append, List.length_map, List.length_replicate]
    omega
theorem fn_of {CX : CXT} {P : Program} {w : World} {K : PySem.W.Frag} {mg : Str → Option Value} {base : Heap} {k : Nat} {f : Addr} {name qual : Str} {params : Arguments} {body : List Stmt} {scope : Scope} {dV kV doc pm cdv ct oc : Value} {an od : Option Addr}
    {osl : Array (Option Value)} {N ps : List Str} {sp : Sp} (lk : K.lookup f = some ⟨oc, od, .func (PySem.W.fnOf name qual params body scope dV kV doc pm an cdv ct), osl⟩) (hcd : PySem.W.codeIn K cdv qual = true) (S : FnScope N ps scope)
    (len : ∀ vs H Q E, sp vs H Q E → vs.length = ps.length)
    (hbody : ∀ (A : Around) (outer : List Env) (s : Shared) (H : Hp) (vs : List V) (Q : VK) (E : XK), Room k (A.deeper (envOfC qual scope s.heap.objs.size f cdv)) → sp vs H Q E →
      ∃ t, PSs (cxOf CX P w K mg base N qual scope f cdv A outer s H E) body t ∧ t { nx := fun _ H' => Q .non H', rt := Q } (start N vs) H) :
    FnOk P w K mg base CX (k + 1) f (PySem.W.fnOf name qual params body scope dV kV doc pm an cdv ct) ps sp := by
  refine ⟨len, fun A outer s H args us vs Q E hr e0 hb r hsp => ?_⟩
  have hl := len _ _ _ _ hsp
  have KX : K.In s.heap := e0.mod.kin.keeps fun b o e => (e0.bs b o e).1
  have lim : s.heap.NoLimit := e0.mod.nolimit.keeps fun b o e => (e0.bs b o e).1
  have hkind : ∀ y ∈ ps.zip us, scope.names.lookup y.1 = some .local ∨ (scope.names.lookup y.1 = some .cell ∧ ((cellsFrom (s.heap.objs.size + 1) scope.names []).lookup y.1).isSome = true) := fun ⟨n, v⟩ hy => by
    rcases S.par n (List.of_mem_zip hy).1 with q | q
    · exact .inl q
    · exact .inr ⟨q, PySem.W.cellsFrom_some _ _ _ (.inl q)⟩
  refine codeAny_call_function hr.depth (KX _ _ lk) rfl S.co S.gen rfl (PySem.W.codeRec_of KX hcd) (hb _ _ _ _ ?_)
  refine wpAny_newFunctionEnv_cells S.kind hkind fun env he s1 x => ?_
  subst he
  refine ⟨lim.keeps x.toInCall.keep, codeAny_func ?_⟩
  obtain ⟨t, ht, hq⟩ := hbody A outer s H vs Q E (hr.deeper _) hsp
  have I : Inv (cxOf CX P w K mg base N qual scope f cdv A outer s H E) [] (start N vs) H s1 := inv_start S hr.hd e0 hl r x
  refine wpAny_mono (ht [] s1 (start N vs) H _ I hq) (fun fl s' hs => ?_) fun e s' hs => hs
  have fin : ∀ {σ' : St} {H' : Hp} {v : V} {u : Value}, Inv (cxOf CX P w K mg base N qual scope f cdv A outer s H E) [] σ' H' s' → RelV v u → Q v H' → CE outer P w H s Q u s' :=
    fun {σ' H' v u} J rv q => ⟨v, H', J.os, J.bare, J.base, J.hok, rv, q⟩
  cases fl with
  | ret u =>
    obtain ⟨v, σ', H', J, rv, q⟩ := hs
    exact fin J rv q
  | next =>
    obtain ⟨σ', H', J, q⟩ := hs
    exact fin (v := V.non) (u := Value.none) J rfl q
  | brk =>
    obtain ⟨_, _, _, q⟩ := hs
    exact False.elim q
  | cont =>
    obtain ⟨_, _, _, q⟩ := hs
    exact False.elim q
end L2
namespace L2
open PySem PySem.Spec PyProof.Rows
section
variable {X : Cx} {x : Str} {p pos : Pos} {e : Expr} {es : List Expr} {t : TA} {id T : String} {r : List V → Hp → VK → Prop}
def tCB (r : List V → Hp → VK → Prop) (t : TA) : TE := fun σ H Q => t σ H fun vs H1 => r vs H1 Q
theorem pe_callB (hc : CallR X (.builtin id) r) (hg : Gl X x) (hm : X.mg x = none) (hv : bootBuiltins x = some (.builtin id)) (ha : PA X (e :: es) t) (hn : x ≠ "__name__" := by decide) (hdb : (x == ("__debug__" : Str)) = false := by decide)
    (he : starEach (e :: es) X.env = (false, eval e X.env) :: starEach es X.env := by rfl) (hpl : (backTo pos (starEach es X.env)).any (·.1) = false := by rfl) : PE X (.Call (.Name x p) (e :: es) [] pos) (tCB r t) := by
  intro pins s σ H Q I h
  refine wpAny_Call_Name_kw (ld_blt I hg hm hv ?_ hn hdb)
  exact PyProof.Rows.callWith_builtin1 (thn (ha pos pins s σ H _ I h) fun us s1 ⟨vs, H1, I1, r1, q1⟩ => hc pins s1 σ H1 vs us Q I1 r1 q1) he hpl
theorem pe_callTy (hc : CallR X (.type T) r) (hg : Gl X x) (hm : X.mg x = none) (hv : bootBuiltins x = some (.type T)) (ha : PA X (e :: es) t) (hn : x ≠ "__name__" := by decide) (hdb : (x == ("__debug__" : Str)) = false := by decide)
    (he : starEach (e :: es) X.env = (false, eval e X.env) :: starEach es X.env := by rfl) (hpl : (backTo pos (starEach es X.env)).any (·.1) = false := by rfl) : PE X (.Call (.Name x p) (e :: es) [] pos) (tCB r t) := by
  intro pins s σ H Q I h
  refine wpAny_Call_Name_kw (ld_blt I hg hm hv ?_ hn hdb)
  exact PyProof.Rows.callWith_type1 (thn (ha pos pins s σ H _ I h) fun us s1 ⟨vs, H1, I1, r1, q1⟩ => hc pins s1 σ H1 vs us Q I1 r1 q1) he hpl
theorem pe_callTy0 (hc : CallR X (.type T) r) (hg : Gl X x) (hm : X.mg x = none) (hv : bootBuiltins x = some (.type T)) (hn : x ≠ "__name__" := by decide) (hdb : (x == ("__debug__" : Str)) = false := by decide) :
    PE X (.Call (.Name x p) [] [] pos) (tCB r tNil) := by
  intro pins s σ H Q I h
  refine wpAny_Call_Name_kw (ld_blt I hg hm hv ?_ hn hdb)
  exact PyProof.Rows.callWith_type0 (hc pins s σ H [] [] Q I .nil h)
end
end L2
namespace HT
open PySem PyProof.Rows
def lexLt : List Int → List Int → Bool
  | [], [] => false
  | [], _ :: _ => true
  | _ :: _, [] => false
  | x :: xs, y :: ys => if x = y then lexLt xs ys else decide (x < y)
theorem lexLt_cons (x y : Int) (xs ys : List Int) : lexLt (x :: xs) (y :: ys) = if x = y then lexLt xs ys else decide (x < y) := rfl
theorem lexLt_nil_nil : lexLt [] [] = false := rfl
theorem lexLt_nil_cons (y : Int) (ys : List Int) : lexLt [] (y :: ys) = true := rfl
theorem lexLt_cons_nil (x : Int) (xs : List Int) : lexLt (x :: xs) [] = false := rfl
theorem eqAt_int (A : Around) (s : Shared) (a : Int) (t : Tok) (c : Int) (u : Tok) : ∃ e, SeqAt.EqAt A s (.int a t) (.int c u) e ∧ (e = true ↔ a = c) :=
  ⟨(a == c), SeqAt.EqAt.int_int a t c u, by simp⟩
theorem rcLt_int (A : Around) (s : Shared) (a : Int) (t : Tok) (c : Int) (u : Tok) (prog : Program) (w : World) (E : Value → Shared → Prop) (Q : Value → Shared → Prop) (h : Q (.bool (decide (a < c))) s) :
    wpAny (model prog w) A (richCompare .Lt (.int a t) (.int c u)) Q E s :=
  (PyProof.Rows.lt_int h : wpAny (model prog w) A (compareOp .Lt (.int a t) (.int c u)) Q E s)
section
open PySem.SeqAt
open PySem.AutoSeq1 (wpAny_loadPart')
open PySem.MeetsSeq PySem.MeetsSeq2 PySem.MeetsSeq3
theorem tuple_lt_ints (l b : Addr) (items items2 : Array Value) (n n2 : Nat) (dd dd2 : Option Addr) (sl sl2 : Array (Option Value)) (ns ms : List Int) (hi : IntsAre items.toList ns) (hj : IntsAre items2.toList ms) :
    Meets (Builtin.«tuple.__lt__» ⟨[.ref l, .ref b], []⟩)
      (fun _ R s => s.heap.get? l = some { cls := .type "tuple", dict := dd, data := .seq items n, slots := sl } ∧ s.heap.get? b = some { cls := .type "tuple", dict := dd2, data := .seq items2 n2, slots := sl2 } ∧
        R (.ok (.ret (.bool (lexLt ns ms)))) s) :=
  .of_wp fun prog w A R s h => by
    obtain ⟨hp, g, d, tk, os⟩ := s; obtain ⟨hl, hb, h⟩ := h
    have f2 := AutoSeq1.sub_tuple_tuple
    have z1 : items.size = ns.length := by rw [← hi.length]; simp
    have z2 : items2.size = ms.length := by rw [← hj.length]; simp
    wp_walk using wpAny_loadPart' hl, wpAny_loadPart' hb, wpAny_forIn_list _ (fun rest b s' => b.1 = none ∧ s' = ⟨hp, g, d, tk, os⟩ ∧ ∃ (vs ws : List Value) (ns' ms' : List Int), rest = vs.zip ws ∧
      IntsAre vs ns' ∧ IntsAre ws ms' ∧ ns'.length + items2.size = ms'.length + items.size ∧ R (.ok (.ret (.bool (lexLt ns' ms')))) ⟨hp, g, d, tk, os⟩) _
    case turn =>
      rintro ⟨y, x⟩ rest b s' ⟨hb', rfl, vs, ws, ns', ms', hz, hvi, hwi, hlen, hR⟩
      cases hvi with
      | nil => rw [List.zip_nil_left] at hz; cases hz
      | cons a t hvi' =>
        cases hwi with
        | nil => rw [List.zip_nil_right] at hz; cases hz
        | cons c u hwi' =>
          rw [List.zip_cons_cons] at hz
          injection hz with hyx hrest
          injection hyx with hy hx
          subst hy hx
          rw [lexLt_cons] at hR
          simp only [List.length_cons] at hlen
          obtain ⟨e, he, hiff⟩ := eqAt_int A.in1 ⟨hp, g, d, tk, os⟩ a t c u
          refine wpAny_bind (he prog w _ _ ?_)
          cases e with
          | true =>
            rw [if_pos (hiff.mp rfl)] at hR
            wp_walk
            exact ⟨rfl, rfl, _, _, _, _, hrest, hvi', hwi', by omega, hR⟩
          | false =>
            rw [if_neg (fun q => absurd (hiff.mpr q) Bool.false_ne_true)] at hR
            have hri := rcLt_int A.in1 ⟨hp, g, d, tk, os⟩ a t c u prog w
            wp_walk using hri
            exact ⟨_, rfl, by simpa using hR⟩
    case fin =>
      rintro ⟨b1, b2⟩ s' ⟨hb', rfl, vs, ws, ns', ms', hz, hvi, hwi, hlen, hR⟩
      simp only at hb'
      subst hb'
      have hv : lexLt ns' ms' = decide (items.size < items2.size) := by
        cases hvi with
        | nil =>
          cases hwi with
          | nil =>
            simp only [List.length_nil] at hlen
            rw [lexLt_nil_nil]
            exact (decide_eq_false (by omega)).symm
          | cons c u hw =>
            simp only [List.length_nil, List.length_cons] at hlen
            rw [lexLt_nil_cons]
            exact (decide_eq_true (by omega)).symm
        | cons a t hv =>
          cases hwi with
          | nil =>
            simp only [List.length_nil, List.length_cons] at hlen
            rw [lexLt_cons_nil]
            exact (decide_eq_false (by omega)).symm
          | cons c u hw =>
            rw [List.zip_cons_cons] at hz
            cases hz
      rw [hv] at hR
      wp_walk
      exact ⟨_, rfl, by simpa [Builtin.Tuple.tupleCompareSizes] using hR⟩
    case h =>
      exact ⟨rfl, rfl, items.toList, items2.toList, ns, ms, rfl, hi, hj, by omega, h⟩
end
section
variable {prog : Program} {w : World} {A : Around} {E : Value → Shared → Prop} {s : Shared}
theorem lt_tupInts {l b : Addr} {items items2 : Array Value} {ns ms : List Int} {Q : Value → Shared → Prop} (hl : IsTup s.heap l items) (hb : IsTup s.heap b items2) (hi : IntsAre items.toList ns) (hj : IntsAre items2.toList ms)
    (hu : A.units < cLine) (h : Q (.bool (lexLt ns ms)) s) : wpAny (model prog w) A (compareOp .Lt (.ref l) (.ref b)) Q E s := by
  obtain ⟨⟨cls, dd, data, sl⟩, ho, hc, n, hd⟩ := id hl
  obtain ⟨⟨cls2, dd2, data2, sl2⟩, ho2, hc2, n2, hd2⟩ := id hb
  simp only at hc hd hc2 hd2
  subst hc hd hc2 hd2
  exact richCompare_meets_room (op := .Lt) ⟨_, ho, rfl⟩ ⟨_, ho2, rfl⟩ PySem.F.slot_tuple_lt PySem.F.entry_tuple_lt (PySem.F.args_tuple_lt_2 _ _) (tuple_lt_ints l b items items2 n n2 dd dd2 sl sl2 ns ms hi hj)
    ⟨ho, ho2, show Value.bool (lexLt ns ms) ≠ Value.notImplemented ∧ Q (.bool (lexLt ns ms)) s from ⟨(fun x => nomatch x), h⟩⟩ hu
theorem cat_tup {t b : Addr} {vs ws : List Value} {Q : Value → Shared → Prop} (ht : IsTup s.heap t vs.toArray) (hb : IsTup s.heap b ws.toArray) (hv : vs ≠ [])
    (h1 : ws = [] → Q (.ref t) s) (h2 : ws ≠ [] → Q (.ref s.heap.objs.size) { s with heap := s.heap.push { cls := .type "tuple", data := .seq (vs ++ ws).toArray } })
    (hsz : vs.length + ws.length ≤ sizeLine) : wpAny (model prog w) A (binaryOp .Add (.ref t) (.ref b)) Q E s := by
  obtain ⟨⟨cls, dd, data, sl⟩, ho, hc, n, hd⟩ := id ht
  obtain ⟨⟨cls2, dd2, data2, sl2⟩, ho2, hc2, n2, hd2⟩ := id hb
  simp only at hc hd hc2 hd2
  subst hc hd hc2 hd2
  have e : vs.toArray ++ ws.toArray = (vs ++ ws).toArray := by simp
  by_cases hw : ws = []
  · exact concat_meets ⟨_, ho, rfl⟩ ⟨_, ho2, rfl⟩ noFill_tuple_add seq_tuple_add PySem.F.slot_tuple_add PySem.F.entry_tuple_add (PySem.F.args_tuple_add_2 _ _)
      (tuple_addW1 t b vs.toArray ws.toArray n n2 dd dd2 sl sl2 (by simpa using hv) (by simp [hw])) ⟨ho, ho2, h1 hw⟩
  · refine concat_meets ⟨_, ho, rfl⟩ ⟨_, ho2, rfl⟩ noFill_tuple_add seq_tuple_add PySem.F.slot_tuple_add PySem.F.entry_tuple_add (PySem.F.args_tuple_add_2 _ _)
      (tuple_addW2 t b vs.toArray ws.toArray n n2 dd dd2 sl sl2 (by simpa using hv) (by simpa using hw) (by rw [List.size_toArray, List.size_toArray]; exact hsz)) ⟨ho, ho2, ?_⟩
    rw [e]
    exact h2 hw
def sIx (n d : Nat) : Option Int → Nat
  | none => d
  | some v => if v < 0 then (v + (n : Int)).toNat else min v.toNat n
theorem sIx_none (n d : Nat) : sIx n d none = d := rfl
theorem sIx_nat (n d k : Nat) : sIx n d (some (k : Int)) = min k n := by
  show (if (k : Int) < 0 then ((k : Int) + (n : Int)).toNat else min (k : Int).toNat n) = min k n
  rw [if_neg (by omega), Int.toNat_natCast]
theorem sIx_le (n d : Nat) (hd : d ≤ n) (o : Option Int) : sIx n d o ≤ n := by
  cases o with
  | none => exact hd
  | some v =>
    show (if v < 0 then (v + (n : Int)).toNat else min v.toNat n) ≤ n
    by_cases hv : v < 0
    · rw [if_pos hv]; omega
    · rw [if_neg hv]; exact Nat.min_le_right _ _
theorem clip_eq (v : Int) (n d : Nat) : (if v < 0 then max (v + (n : Int)) 0 else min v (n : Int)) = ((sIx n d (some v) : Nat) : Int) := by
  show (if v < 0 then max (v + (n : Int)) 0 else min v (n : Int)) = (((if v < 0 then (v + (n : Int)).toNat else min v.toNat n) : Nat) : Int)
  by_cases hv : v < 0
  · simp only [if_pos hv]; omega
  · simp only [if_neg hv]; omega
theorem adjust_gen (lo hi : Option Int) (n : Nat) : Builtin.Slice.sliceAdjust lo hi 1 (n : Int) = (((sIx n 0 lo : Nat) : Int), ((sIx n n hi : Nat) : Int)) := by
  have h1 : ¬ ((1 : Int) < 0) := by omega
  unfold Builtin.Slice.sliceAdjust
  simp only [h1, if_false]
  refine Prod.ext ?_ ?_
  · cases lo with
    | none => rfl
    | some v => exact clip_eq v n 0
  · cases hi with
    | none => rfl
    | some v => exact clip_eq v n n
theorem places_gen (i j : Nat) : Builtin.Slice.slicePlaces (i : Int) (j : Int) 1 = j - i := by
  unfold Builtin.Slice.slicePlaces
  have h1 : (1 : Int) > 0 := by omega
  simp only [h1, if_true, Int.ediv_one]
  split <;> omega
theorem slicePart_ {v : Value} {o : Option Int} {Q : Option Int → Shared → Prop} (p : IsPart v o) (h : Q o s) : wpAny (model prog w) A (Builtin.Slice.slicePartIndex v) Q E s := by
  cases p with
  | none => exact slicePart_none h
  | int i t => exact slicePart_int h
theorem sliceApplied_gen {sl : Addr} {vl vu : Value} {lo hi : Option Int} {n : Nat} {Q : Int × Int × Nat → Shared → Prop} (hs : s.heap.IsSliceOf sl vl vu .none) (pl : IsPart vl lo) (pu : IsPart vu hi)
    (h : Q (((sIx n 0 lo : Nat) : Int), 1, sIx n n hi - sIx n 0 lo) s) : wpAny (model prog w) A (Builtin.Slice.sliceApplied (.ref sl) (pure (n : Int))) Q E s := by
  obtain ⟨os, hos, hcs, hds⟩ := id hs
  unfold Builtin.Slice.sliceApplied Builtin.Slice.sliceFields
  refine wpAny_bind (wpAny_bind (wpAny_field hos hds (x := vl) rfl (wpAny_bind (wpAny_field hos hds (x := vu) rfl (wpAny_bind (wpAny_field hos hds (x := .none) rfl (wpAny_pure ?_)))))))
  refine wpAny_bind (slicePart_none ?_)
  show wpAny _ _ (if ((1 : Int) == 0) = true then _ else _) _ _ s
  rw [if_neg (by decide)]
  refine wpAny_bind (slicePart_ pl (wpAny_bind (slicePart_ pu (wpAny_bind (wpAny_pure ?_)))))
  show wpAny _ _ (match Builtin.Slice.sliceAdjust lo hi 1 (n : Int) with | (lo, hi) => pure (lo, (1 : Int), Builtin.Slice.slicePlaces lo hi 1)) _ _ s
  rw [adjust_gen lo hi n]
  show wpAny _ _ (pure (((sIx n 0 lo : Nat) : Int), (1 : Int), Builtin.Slice.slicePlaces ((sIx n 0 lo : Nat) : Int) ((sIx n n hi : Nat) : Int) 1)) _ _ s
  rw [places_gen]
  exact wpAny_pure h
theorem pick_gen (xs : Array Value) (i k : Nat) : ((List.range k).filterMap fun (m : Nat) => xs[((i : Int) + (m : Int) * 1).toNat]?).toArray = ((xs.toList.drop i).take k).toArray := by
  have e : (fun (m : Nat) => xs[((i : Int) + (m : Int) * 1).toNat]?) = fun m => xs[i + m]? := by
    funext m
    have : ((i : Int) + (m : Int) * 1).toNat = i + m := by omega
    rw [this]
  rw [e]
  have := pick_run xs i k
  rw [List.filterMap_map] at this
  have e2 : ((fun x => xs[x]?) ∘ fun x => i + x) = fun m => xs[i + m]? := rfl
  rw [e2] at this
  rw [this]
theorem getItem_tuple_cut {t sl : Addr} {items : Array Value} {vl vu : Value} {lo hi : Option Int} {Q : Value → Shared → Prop} (ht : IsTup s.heap t items) (hs : s.heap.IsSliceOf sl vl vu .none) (pl : IsPart vl lo) (pu : IsPart vu hi)
    (hw : ¬ (sIx items.size 0 lo = 0 ∧ sIx items.size items.size hi = items.size))
    (h : Q (.ref s.heap.objs.size) { s with heap := s.heap.push { cls := .type "tuple", data := .seq ((items.toList.drop (sIx items.size 0 lo)).take (sIx items.size items.size hi - sIx items.size 0 lo)).toArray } })
    (hsz : items.size ≤ sizeLine) : wpAny (model prog w) A (getItem (.ref t) (.ref sl)) Q E s := by
  have htake : sizeOk (.seq ((items.toList.drop (sIx items.size 0 lo)).take (sIx items.size items.size hi - sIx items.size 0 lo)).toArray) := by
    show ((items.toList.drop (sIx items.size 0 lo)).take (sIx items.size items.size hi - sIx items.size 0 lo)).toArray.size ≤ sizeLine
    rw [List.size_toArray, List.length_take, List.length_drop, Array.length_toList]
    omega
  have hj : sIx items.size items.size hi ≤ items.size := sIx_le _ _ (Nat.le_refl _) hi
  obtain ⟨os, hos, hcs, hds⟩ := id hs
  have hTs : s.TypeIs (.ref sl) "slice" := ⟨os, hos, hcs⟩
  unfold getItem
  try with_reducible refine wpAny_holding ?_
  first | refine wpAny_bind (wpAny_pure ?_) | skip
  refine wpAny_bind (wpAny_sequenceKey ht.typeIs (by decide) ?_)
  refine wpAny_bind (wpAny_callSpecial?_slot (name := Str.ofString "__getitem__") ht.typeIs PyProof.Rows.slot_tuple_getitem
    (wpAny_call_entry PyProof.Rows.slot_tuple_getitem ht.typeIs entry_tuple_getitem ?_ (args_tuple_getitem _ _)))
  show wpAny _ _ (Builtin.Tuple.tupleItemsOf (.ref t) >>= _) _ _ s
  refine wpAny_bind (tupleItemsOf_ ht ?_)
  refine wpAny_bind (wpAny_typeOf hTs ?_)
  rw [if_pos (by decide)]
  refine wpAny_bind (sliceApplied_gen hs pl pu ?_)
  have hno : ¬ ((((sIx items.size 0 lo : Nat) : Int) == 0 && (1 : Int) == 1 && (sIx items.size items.size hi - sIx items.size 0 lo) == items.size) = true) := by
    intro q
    rw [Bool.and_eq_true, Bool.and_eq_true] at q
    have q1 : ((sIx items.size 0 lo : Nat) : Int) = 0 := eq_of_beq q.1.1
    have q2 : sIx items.size items.size hi - sIx items.size 0 lo = items.size := eq_of_beq q.2
    exact hw ⟨by omega, by omega⟩
  show wpAny _ _ (if (((sIx items.size 0 lo : Nat) : Int) == 0 && (1 : Int) == 1 && (sIx items.size items.size hi - sIx items.size 0 lo) == items.size) = true then _ else _) _ _ s
  rw [if_neg hno, pick_gen]
  first
    | exact wpAny_bind (m := Builtin.Tuple.tupleExact _) (wpAny_newObj_type (wpAny_pure ⟨_, rfl, wpAny_pure h⟩) htake)
    | exact wpAny_bind (m := Builtin.Tuple.tupleExact _) (wpAny_newObj_type (wpAny_bind (wpAny_pure (wpAny_pure ⟨_, rfl, wpAny_pure h⟩))) htake)
    | exact wpAny_bind (wpAny_bind (m := Builtin.Tuple.tupleExact _) (wpAny_newObj_type (wpAny_pure (wpAny_pure ⟨_, rfl, wpAny_pure h⟩)) htake))
    | exact wpAny_bind (wpAny_bind (m := Builtin.Tuple.tupleExact _) (wpAny_newObj_type (wpAny_pure ⟨_, rfl, wpAny_pure h⟩) htake))
end
end HT
namespace L2
open PySem PySem.Spec PyProof.Rows
abbrev TO := St → Hp → (Option Int → Hp → Prop) → Prop
def PO (X : Cx) (e : Option Expr) (t : TO) : Prop :=
  ∀ (pins : List (Addr × Obj)) (s : Shared) (σ : St) (H : Hp) (Q : Option Int → Hp → Prop), Inv X pins σ H s → t σ H Q →
    wpAny (model X.prog X.w) X.A (evalPart e X.env) (fun u s' => ∃ o H', Inv X pins σ H' s' ∧ IsPart u o ∧ Q o H') X.xe s
def tNoPart : TO := fun _ H Q => Q none H
def tPart (t : TE) : TO := fun σ H Q => t σ H fun x H1 => ∃ i, x = .int i ∧ Q (some i) H1
theorem intsAre_of {ns : List Int} : ∀ {us : List Value}, Vals (ns.map V.int) us → IntsAre us ns := by
  induction ns with
  | nil => intro us r; rw [List.map_nil] at r; cases r; exact .nil
  | cons n ns ih =>
    intro us r
    rw [List.map_cons] at r
    cases r with
    | cons r1 r2 =>
      obtain ⟨t, e⟩ := r1
      subst e
      exact .cons n t (ih r2)
section
variable {X : Cx} {e : Expr} {te : TE} {lo hi : Option Expr} {tl th : TO} {pos p2 : Pos}
theorem po_none : PO X none tNoPart := by
  intro pins s σ H Q I h
  rw [evalPart_none]
  exact wpAny_pure ⟨none, H, I, .none, h⟩
theorem po_some (h : PE X e te) : PO X (some e) (tPart te) := by
  intro pins s σ H Q I hw
  rw [evalPart_some]
  refine thn (h pins s σ H _ I hw) fun u s1 ⟨x, H1, I1, r1, q1⟩ => ?_
  obtain ⟨i, rfl, q⟩ := q1
  obtain ⟨t, rfl⟩ := r1
  exact ⟨some i, H1, I1, .int i t, q⟩
def SlR (X : Cx) (r : V → Option Int → Option Int → Hp → VK → Prop) : Prop :=
  ∀ (pins : List (Addr × Obj)) (s : Shared) (σ : St) (H : Hp) (x : V) (v vl vu : Value) (lo hi : Option Int) (sl : Addr) (Q : VK), Inv X pins σ H s → RelV x v → s.heap.IsSliceOf sl vl vu .none → IsPart vl lo → IsPart vu hi → r x lo hi H Q →
    ∃ T id, typeLookup (.type T) "__getitem__" = pure (some (.builtin id)) ∧ s.TypeIs v T ∧ wpAny (model X.prog X.w) X.A (getItem v (.ref sl)) (EP X pins σ Q) X.xe s
theorem SlR.or {r r' : V → Option Int → Option Int → Hp → VK → Prop} (h : SlR X r) (h' : SlR X r') : SlR X (fun x lo hi H Q => r x lo hi H Q ∨ r' x lo hi H Q) := by
  intro pins s σ H x v vl vu lo hi sl Q I rx hs pl pu q
  rcases q with q | q
  · exact h pins s σ H x v vl vu lo hi sl Q I rx hs pl pu q
  · exact h' pins s σ H x v vl vu lo hi sl Q I rx hs pl pu q
def tSl (r : V → Option Int → Option Int → Hp → VK → Prop) (te : TE) (tl th : TO) : TE := fun σ H Q => te σ H fun x H1 => tl σ H1 fun l H2 => th σ H2 fun u H3 => r x l u H3 Q
theorem pe_slice {r : V → Option Int → Option Int → Hp → VK → Prop} (hr : SlR X r) (he : PE X e te) (hl : PO X lo tl) (hu : PO X hi th) : PE X (.Subscript e (.Slice lo hi none p2) pos) (tSl r te tl th) := by
  intro pins s σ H Q I h
  refine Subscript_ (thn (he pins s σ H _ I h) fun v s1 ⟨x, H1, I1, r1, q1⟩ => ?_)
  refine wpAny_Slice (thn (hl pins s1 σ H1 _ I1 q1) fun vl s2 ⟨l, H2, I2, pl, q2⟩ => thn (hu pins s2 σ H2 _ I2 q2) fun vu s3 ⟨u, H3, I3, pu, q3⟩ => ?_)
  rw [evalPart_none]
  refine wpAny_pure ?_
  have I4 : Inv X pins σ H3 { s3 with heap := s3.heap.push { cls := .type "slice", data := .fields #[vl, vu, .none] } } := I3.kept (t' := s3.toks) fun b ob q => Heap.get?_push_of_some _ q
  obtain ⟨T, id, hT, ht, hg⟩ := hr pins { s3 with heap := s3.heap.push { cls := .type "slice", data := .fields #[vl, vu, .none] } } σ H3 x v vl vu l u s3.heap.objs.size Q I4 r1 (Heap.IsSliceOf.new ..) pl pu q3
  show wpAny (model X.prog X.w) X.A (subscriptTail e (.Slice lo hi none p2) v (.ref s3.heap.objs.size)) (EP X pins σ Q) X.xe { s3 with heap := s3.heap.push { cls := .type "slice", data := .fields #[vl, vu, .none] } }
  exact tail_any (ops := [.ref s3.heap.objs.size, v]) ht hT hg (by with_unfolding_all rfl)
def cutV (xs : List V) (lo hi : Option Int) : List V := (xs.drop (HT.sIx xs.length 0 lo)).take (HT.sIx xs.length xs.length hi - HT.sIx xs.length 0 lo)
theorem cutV_length (xs : List V) (lo hi : Option Int) : (cutV xs lo hi).length ≤ xs.length := by
  unfold cutV
  rw [List.length_take, List.length_drop]
  omega
def rSlT (K : PySem.W.Frag) : V → Option Int → Option Int → Hp → VK → Prop := fun x lo hi H Q => ∃ a xs, x = .ref a ∧ SqT K H a xs ∧
  ¬ (HT.sIx xs.length 0 lo = 0 ∧ HT.sIx xs.length xs.length hi = xs.length) ∧ ∀ p, H p = none → Q (.ref p) (upd H p (.tup (cutV xs lo hi)))
theorem sl_tup : SlR X (rSlT X.K) := by
  intro pins s σ H x v vl vu lo hi sl Q I rx hs pl pu h
  obtain ⟨a, xs, rfl, hx, hw, q⟩ := h
  cases rx
  obtain ⟨its, r, ht, hz⟩ := I.tuple hx
  have hlen : its.toArray.size = xs.length := by rw [List.size_toArray]; exact r.length.symm
  refine ⟨"tuple", _, PyProof.Rows.slot_tuple_getitem.lookup, ht.typeIs, ?_⟩
  refine HT.getItem_tuple_cut ht hs pl pu (by rw [hlen]; exact hw) ?_ (by rw [hlen]; exact hz)
  rw [hlen]
  refine ⟨.ref s.heap.objs.size, _, I.laid (t' := s.toks) (o := .tup (cutV xs lo hi)) (fun b ob q => Heap.get?_push_of_some _ q) (Nat.le_refl _) ?_, rfl, q _ (I.hok.fresh (Nat.le_refl _))⟩
  exact ⟨Nat.le_trans (cutV_length xs lo hi) hz, _, (r.drop (HT.sIx xs.length 0 lo)).take (HT.sIx xs.length xs.length hi - HT.sIx xs.length 0 lo), IsTup.new _ _⟩
def rLtT (K : PySem.W.Frag) : R2 := fun x y H Q => ∃ a b ns ms, x = .ref a ∧ y = .ref b ∧ SqT K H a (ns.map V.int) ∧ SqT K H b (ms.map V.int) ∧ Q (.bl (HT.lexLt ns ms)) H
theorem op_ltT (hu : X.A.units < cLine) : OpR X (compareOp .Lt) (rLtT X.K) := by
  intro pins s σ H x y v u Q I rx ry h
  obtain ⟨a, b, ns, ms, rfl, rfl, ha, hb, q⟩ := h
  cases rx
  cases ry
  obtain ⟨its, r1, p1, _⟩ := I.tuple ha
  obtain ⟨its2, r2, p2, _⟩ := I.tuple hb
  have i1 : IntsAre its.toArray.toList ns := intsAre_of r1
  have i2 : IntsAre its2.toArray.toList ms := intsAre_of r2
  exact HT.lt_tupInts p1 p2 i1 i2 hu ⟨.bl (HT.lexLt ns ms), H, I, rfl, q⟩
def rCatT (K : PySem.W.Frag) : R2 := fun x y H Q => ∃ a b xs ys, x = .ref a ∧ y = .ref b ∧ SqT K H a xs ∧ SqT K H b ys ∧ xs ≠ [] ∧ xs.length + ys.length ≤ sizeLine ∧
  (ys = [] → Q (.ref a) H) ∧ (ys ≠ [] → ∀ p, H p = none → Q (.ref p) (upd H p (.tup (xs ++ ys))))
theorem Vals.nil_iff {xs : List V} {us : List Value} (r : Vals xs us) : us = [] ↔ xs = [] := by
  cases r with
  | nil => simp
  | cons _ _ => simp
theorem op_catT : OpR X (binaryOp .Add) (rCatT X.K) := by
  intro pins s σ H x y v u Q I rx ry h
  obtain ⟨a, b, xs, ys, rfl, rfl, ha, hb, hx, hz, q1, q2⟩ := h
  cases rx
  cases ry
  obtain ⟨its, r1, p1, _⟩ := I.tuple ha
  obtain ⟨its2, r2, p2, _⟩ := I.tuple hb
  refine HT.cat_tup p1 p2 (fun z => hx (r1.nil_iff.mp z)) (fun z => ⟨.ref a, H, I, rfl, q1 (r2.nil_iff.mp z)⟩) (fun z => ?_) (by rw [← r1.length, ← r2.length]; exact hz)
  refine ⟨.ref s.heap.objs.size, _, I.laid (t' := s.toks) (o := .tup (xs ++ ys)) (fun b ob q => Heap.get?_push_of_some _ q) (Nat.le_refl _) ?_, rfl, q2 (fun w => z (r2.nil_iff.mpr w)) _ (I.hok.fresh (Nat.le_refl _))⟩
  exact ⟨by rw [List.length_append]; exact hz, _, r1.append r2, IsTup.new _ _⟩
theorem call_tupleT : CallR X (.type "tuple") (fun xs H Q => ∃ a ys, xs = [.ref a] ∧ SqT X.K H a ys ∧ Q (.ref a) H) := by
  intro pins s σ H xs us Q I r h
  obtain ⟨a, ys, rfl, ha, q⟩ := h
  obtain ⟨u, rfl, ru⟩ := vals1 r
  cases ru
  obtain ⟨its, _, p1, _⟩ := I.tuple ha
  exact call_tuple_same (items := its.toArray) p1 ⟨.ref a, H, I, rfl, q⟩
end
end L2
namespace L2
open PySem PySem.Spec PyProof.Rows
def ixN (n : Nat) (i : Int) : Option Nat := if 0 ≤ i then (if i < n then some i.toNat else none) else if -(n : Int) ≤ i then some (i + n).toNat else none
def atI {α : Type} (xs : List α) (i : Int) : Option α := (ixN xs.length i).bind fun j => xs[j]?
theorem ixN_seq {n : Nat} {i : Int} {j : Nat} (h : ixN n i = some j) : seqIndex? i n = some j ∧ j < n ∧ -(n : Int) ≤ i ∧ i < n := by
  unfold ixN at h
  by_cases h0 : 0 ≤ i
  · rw [if_pos h0] at h
    by_cases h1 : i < n
    · rw [if_pos h1] at h
      have e : i.toNat = j := Option.some.inj h
      exact ⟨by rw [seqIndex_of h0 h1, e], by omega, by omega, h1⟩
    · rw [if_neg h1] at h; cases h
  · rw [if_neg h0] at h
    by_cases h1 : -(n : Int) ≤ i
    · rw [if_pos h1] at h
      have e : (i + n).toNat = j := Option.some.inj h
      exact ⟨by rw [seqIndex_neg (by omega) h1, e], by omega, h1, by omega⟩
    · rw [if_neg h1] at h; cases h
theorem atI_get {α : Type} {xs : List α} {i : Int} {v : α} (h : atI xs i = some v) : ∃ j, seqIndex? i xs.length = some j ∧ xs[j]? = some v ∧ j < xs.length ∧ -(xs.length : Int) ≤ i ∧ i < xs.length := by
  unfold atI at h
  cases e : ixN xs.length i with
  | none => rw [e] at h; cases h
  | some j =>
    rw [e] at h
    obtain ⟨h1, h2, h3, h4⟩ := ixN_seq e
    exact ⟨j, h1, h, h2, h3, h4⟩
theorem atI_nat {α : Type} {xs : List α} {j : Nat} {v : α} (h : xs[j]? = some v) : atI xs (j : Int) = some v := by
  have hj : j < xs.length := (List.getElem?_eq_some_iff.mp h).1
  have e : ixN xs.length (j : Int) = some j := by
    unfold ixN
    rw [if_pos (by omega), if_pos (by omega)]; simp
  unfold atI; rw [e]; exact h
theorem atI_last {α : Type} (xs : List α) (v : α) : atI (xs ++ [v]) (-1) = some v := by
  have hl : (xs ++ [v]).length = xs.length + 1 := by simp
  have e : ixN (xs ++ [v]).length (-1) = some xs.length := by
    unfold ixN
    rw [hl, if_neg (by decide), if_pos (by omega)]
    congr 1
    omega
  unfold atI
  rw [e]
  show (xs ++ [v])[xs.length]? = some v
  simp
def PlainIx (b : Expr) : Prop := ∀ o i, subscripted b false o i = operate [o, i] (getItem o i)
def IxR (X : Cx) (r : R2) : Prop :=
  ∀ (value slice : Expr) (pins : List (Addr × Obj)) (s : Shared) (σ : St) (H : Hp) (x y : V) (v u : Value) (Q : VK), Inv X pins σ H s → RelV x v → RelV y u → r x y H Q →
    subscripted slice false v u = operate [v, u] (getItem v u) → wpAny (model X.prog X.w) X.A (subscriptTail value slice v u) (EP X pins σ Q) X.xe s
def MtR (X : Cx) (id : String) (r : V → List V → Hp → VK → Prop) : Prop :=
  ∀ (pins : List (Addr × Obj)) (s : Shared) (σ : St) (H : Hp) (x : V) (xs : List V) (v : Value) (us : List Value) (Q : VK), Inv X pins σ H s → RelV x v → Vals xs us → r x xs H Q →
    wpAny (model X.prog X.w) X.A (call (.builtin id) (v :: us)) (EP X pins σ Q) X.xe s
section
variable {X : Cx} {a b : Expr} {ta tb : TE} {pos : Pos}
theorem IxR.or {r r' : R2} (h : IxR X r) (h' : IxR X r') : IxR X (fun x y H Q => r x y H Q ∨ r' x y H Q) := by
  intro value slice pins s σ H x y v u Q I rx ry q hs
  rcases q with q | q
  · exact h value slice pins s σ H x y v u Q I rx ry q hs
  · exact h' value slice pins s σ H x y v u Q I rx ry q hs
theorem MtR.or {id : String} {r r' : V → List V → Hp → VK → Prop} (h : MtR X id r) (h' : MtR X id r') : MtR X id (fun x xs H Q => r x xs H Q ∨ r' x xs H Q) := by
  intro pins s σ H x xs v us Q I rx rs q
  rcases q with q | q
  · exact h pins s σ H x xs v us Q I rx rs q
  · exact h' pins s σ H x xs v us Q I rx rs q
theorem pe_ix {r : R2} (hr : IxR X r) (ha : PE X a ta) (hb : PE X b tb) (hs : PlainIx b) : PE X (.Subscript a b pos) (tOp r ta tb) := by
  intro pins s σ H Q I h
  exact Subscript_ (binT ha hb I h fun v u s2 x y H2 I2 rx ry q => hr a b pins s2 σ H2 x y v u Q I2 rx ry q (hs _ _))
def rIxL (K : PySem.W.Frag) : R2 := fun x y H Q => ∃ p xs i v, x = .ref p ∧ y = .int i ∧ SqL K H p xs ∧ atI xs i = some v ∧ Q v H
def rIxT (K : PySem.W.Frag) : R2 := fun x y H Q => ∃ p xs i v, x = .ref p ∧ y = .int i ∧ SqT K H p xs ∧ atI xs i = some v ∧ Q v H
def rIxS : R2 := fun x y H Q => ∃ z i c, x = .str z ∧ y = .int i ∧ z.length ≤ sizeLine ∧ atI z.cps.toList i = some c ∧ Q (.str ⟨#[c]⟩) H
theorem ix_list : IxR X (rIxL X.K) := by
  intro value slice pins s σ H x y v u Q I rx ry h hs
  obtain ⟨p, xs, i, z, rfl, rfl, hq, he, q⟩ := h
  cases rx
  obtain ⟨t, rfl⟩ := ry
  obtain ⟨its, r, pl, hz⟩ := I.list hq
  obtain ⟨j, h1, h2, h3, h4, h5⟩ := atI_get he
  obtain ⟨w, ew, rw'⟩ := r.get h2
  have hl := r.length
  have hn := line63
  have fin : EP X pins σ Q w s := ⟨z, H, I, rw', q⟩
  by_cases h0 : 0 ≤ i
  · have hj : i.toNat = j := by
      rw [seqIndex_of h0 h5] at h1
      exact Option.some.inj h1
    exact item_listR pl.isList h0 (by omega) (by rw [hj]; simpa using ew) fin hs
  · have hj : (i + (its.toArray.size : Int)).toNat = j := by
      rw [seqIndex_neg (by omega) h4] at h1
      rw [List.size_toArray, ← hl]
      exact Option.some.inj h1
    exact subscriptTail_builtinR (x := w) pl.isList.typeIs slot_list_getitem.lookup
      (wpAny_getItem_list_neg (Q := fun r s' => r = w ∧ EP X pins σ Q r s') pl.isList (by omega) (by rw [List.size_toArray] <;> omega) (by omega) (by rw [hj]; simpa using ew) ⟨rfl, fin⟩) hs
theorem ix_tup : IxR X (rIxT X.K) := by
  intro value slice pins s σ H x y v u Q I rx ry h hs
  obtain ⟨p, xs, i, z, rfl, rfl, hq, he, q⟩ := h
  cases rx
  obtain ⟨t, rfl⟩ := ry
  obtain ⟨its, r, pl, hz⟩ := I.tuple hq
  obtain ⟨j, h1, h2, h3, h4, h5⟩ := atI_get he
  obtain ⟨w, ew, rw'⟩ := r.get h2
  have hl := r.length
  have hn := line63
  have fin : EP X pins σ Q w s := ⟨z, H, I, rw', q⟩
  exact subscriptTail_builtinR (x := w) pl.typeIs slot_tuple_getitem.lookup
    (getItem_tuple (j := j) (Q := fun r s' => r = w ∧ EP X pins σ Q r s') pl (by omega) (by omega) (by rw [List.size_toArray, ← hl]; exact h1) (by simpa using ew) ⟨rfl, fin⟩) hs
theorem ix_str : IxR X rIxS := by
  intro value slice pins s σ H x y v u Q I rx ry h hs
  obtain ⟨z, i, c, rfl, rfl, hz, he, q⟩ := h
  obtain ⟨t, rfl⟩ := rx
  obtain ⟨t', rfl⟩ := ry
  obtain ⟨j, h1, h2, h3, h4, h5⟩ := atI_get he
  have hl : z.cps.toList.length = z.length := by simp [Str.length]
  rw [hl] at h1 h4 h5
  have hn := line63
  exact tail_any (typeIs_str s z t) slot_str_getitem.lookup (getItem_str (c := c) (by
    have e1 : decide (i < -(2 ^ 63 : Int)) = false := decide_eq_false (by omega)
    have e2 : decide (i ≥ 2 ^ 63) = false := decide_eq_false (by omega)
    rw [e1, e2, Bool.or_false]) (by rw [h1]; simpa using h2) ⟨.str ⟨#[c]⟩, H, I.tok _, ⟨_, rfl⟩, q⟩) hs
def rIx (K : PySem.W.Frag) : R2 := fun x y H Q => rIxL K x y H Q ∨ rIxT K x y H Q ∨ rIxS x y H Q
theorem ix_seq : IxR X (rIx X.K) := ix_list.or (ix_tup.or ix_str)
theorem mapSeq_set (its : List Value) (n j : Nat) (u : Value) : Obj.mapSeq (·.setIfInBounds j u) { cls := .type "list", data := .seq its.toArray n } = { cls := .type "list", data := .seq (its.set j u).toArray n } := by
  simp [Obj.mapSeq]
theorem Inv.lst {pins : List (Addr × Obj)} {σ : St} {H : Hp} {s : Shared} {p : Addr} {xs : List V} (I : Inv X pins σ H s) (h : H p = some (.lst xs)) :
    ∃ (its : List Value) (n : Nat), Vals xs its ∧ s.heap.get? p = some { cls := .type "list", data := .seq its.toArray n } ∧ xs.length ≤ sizeLine := by
  obtain ⟨z, its, n, r, e⟩ := I.hok p _ h
  exact ⟨its, n, r, e, z⟩
theorem Inv.lstUpd {pins : List (Addr × Obj)} {σ : St} {H : Hp} {s : Shared} {p : Addr} {xs ys : List V} {its its' : List Value} {n n' : Nat} {f : Obj → Obj} (I : Inv X pins σ H s) (h : H p = some (.lst xs))
    (ho : s.heap.get? p = some { cls := .type "list", data := .seq its.toArray n }) (hf : f { cls := .type "list", data := .seq its.toArray n } = { cls := .type "list", data := .seq its'.toArray n' }) (r : Vals ys its') (hz : ys.length ≤ sizeLine) (t : Nat) :
    Inv X pins σ (upd H p (.lst ys)) { s with heap := s.heap.update p f, toks := t } := by
  have e : (s.heap.update p f).get? p = some { cls := .type "list", data := .seq its'.toArray n' } := by
    rw [Heap.get?_update_self f ho (by rw [hf] <;> rfl), hf]
  refine I.write (x := p) (e := p) (by rw [h]; trivial) (.inl rfl) (fun b u hb q => (Heap.get?_update_other _ _ (Ne.symm hb)).trans q) ⟨_, e⟩ ?_
  exact ⟨hz, its', n', r, e⟩
def rSetL : V → V → V → Hp → (Hp → Prop) → Prop := fun o i v H Q => ∃ p xs k j, o = .ref p ∧ i = .int k ∧ H p = some (.lst xs) ∧ ixN xs.length k = some j ∧ Q (upd H p (.lst (xs.set j v)))
theorem set_list : PSet X rSetL := by
  intro pins s σ H o i v ov iv u Q I ro ri rv h
  obtain ⟨p, xs, k, j, rfl, rfl, hp, hj, q⟩ := h
  cases ro
  obtain ⟨t, rfl⟩ := ri
  obtain ⟨its, n, r, ho, hz⟩ := I.lst hp
  obtain ⟨h1, h2, h3, h4⟩ := ixN_seq hj
  have hl := r.length
  have hn := line63
  have I' : Inv X pins σ (upd H p (.lst (xs.set j v))) { s with heap := s.heap.update p (Obj.mapSeq (·.setIfInBounds j u)) } :=
    I.lstUpd hp ho (mapSeq_set its n j u) (r.set rv j) (by rw [List.length_set]; exact hz) s.toks
  by_cases h0 : 0 ≤ k
  · have hk : k.toNat = j := by
      rw [seqIndex_of h0 h4] at h1
      exact Option.some.inj h1
    exact PySem.W.ki_setAt ho h0 (by omega) (by rw [List.size_toArray, ← hl]; exact h4) (by rw [hk]; exact ⟨_, I', q⟩)
  · have hk : (k + (its.toArray.size : Int)).toNat = j := by
      rw [seqIndex_neg (by omega) h3] at h1
      rw [List.size_toArray, ← hl]
      exact Option.some.inj h1
    exact PySem.W.ki_setBack ho (by omega) (by rw [List.size_toArray, ← hl]; exact h3) (by omega) (by rw [hk]; exact ⟨_, I', q⟩)
theorem slice_bounds (lo hi : Option Int) (n : Nat) : (sliceBounds lo hi none n).1 = ((HT.sIx n 0 lo : Nat) : Int) ∧ (sliceBounds lo hi none n).2.1 = ((HT.sIx n n hi : Nat) : Int) ∧ (sliceBounds lo hi none n).2.2 = 1 := by
  refine ⟨?_, ?_, rfl⟩
  · cases lo with
    | none => simp [sliceBounds, HT.sIx]
    | some i =>
      simp only [sliceBounds, HT.sIx, Option.getD_none, show (1 : Int) > 0 by decide, if_true]
      by_cases h : i < 0
      · simp only [h, if_true] <;> omega
      · simp only [h, if_false] <;> omega
  · cases hi with
    | none => simp [sliceBounds, HT.sIx]
    | some i =>
      simp only [sliceBounds, HT.sIx, Option.getD_none, show (1 : Int) > 0 by decide, if_true]
      by_cases h : i < 0
      · simp only [h, if_true] <;> omega
      · simp only [h, if_false] <;> omega
theorem slicePick_cut (its : List Value) (lo hi : Option Int) : slicePick its.toArray lo hi none = ((its.drop (HT.sIx its.length 0 lo)).take (HT.sIx its.length its.length hi - HT.sIx its.length 0 lo)).toArray := by
  obtain ⟨h1, h2, h3⟩ := slice_bounds lo hi its.toArray.size
  unfold slicePick
  rw [h1, h2, h3]
  simp only [sliceRange_one, pick_run, List.size_toArray] <;> rfl
def rSlL (K : PySem.W.Frag) : V → Option Int → Option Int → Hp → VK → Prop := fun x lo hi H Q => ∃ a xs, x = .ref a ∧ SqL K H a xs ∧ ∀ p, H p = none → Q (.ref p) (upd H p (.lst (cutV xs lo hi)))
theorem sl_list : SlR X (rSlL X.K) := by
  intro pins s σ H x v vl vu lo hi sl Q I rx hs pl pu h
  obtain ⟨a, xs, rfl, hx, q⟩ := h
  cases rx
  obtain ⟨its, r, ht, hz⟩ := I.list hx
  have hlen := r.length
  refine ⟨"list", _, slot_list_getitem.lookup, ht.isList.typeIs, ?_⟩
  refine wpAny_getItem_list_slice ht.isList hs pl pu .none (by simp) ?_ (by rw [List.size_toArray] <;> omega)
  rw [slicePick_cut, ← hlen]
  refine ⟨.ref s.heap.objs.size, _, I.laid (t' := s.toks) (o := .lst (cutV xs lo hi)) (fun b ob q => Heap.get?_push_of_some _ q) (Nat.le_refl _) ?_, rfl, q _ (I.hok.fresh (Nat.le_refl _))⟩
  exact ⟨Nat.le_trans (cutV_length xs lo hi) hz, _, 0, (r.drop (HT.sIx xs.length 0 lo)).take (HT.sIx xs.length xs.length hi - HT.sIx xs.length 0 lo), Heap.get?_push_size _ rfl⟩
def flatV : V → Bool
  | .non => true
  | .bl _ => true
  | .int _ => true
  | .str _ => true
  | _ => false
def eqV : V → V → Bool
  | .non, .non => true
  | .bl a, .bl b => a == b
  | .bl a, .int b => (if a then 1 else 0) == b
  | .int a, .bl b => a == (if b then 1 else 0)
  | .int a, .int b => a == b
  | .str a, .str b => a == b
  | _, _ => false
theorem eqAt_V {A : Around} {s : Shared} {y x : V} {u v : Value} (ry : RelV y u) (rx : RelV x v) (fy : flatV y = true) (fx : flatV x = true) : SeqAt.EqAt A s u v (eqV y x) := by
  cases y with
  | non =>
    cases ry
    cases x with
    | non => cases rx; exact SeqAt.EqAt.same _
    | bl b => cases rx; exact SeqAt.EqAt.none_bool b
    | int b => obtain ⟨t, rfl⟩ := rx; exact SeqAt.EqAt.none_int b t
    | str b => obtain ⟨t, rfl⟩ := rx; exact SeqAt.EqAt.none_str b t
    | _ => exact absurd (show false = true from fx) Bool.false_ne_true
  | bl a =>
    cases ry
    cases x with
    | non => cases rx; exact SeqAt.EqAt.bool_none a
    | bl b => cases rx; exact SeqAt.EqAt.bool_bool a b
    | int b => obtain ⟨t, rfl⟩ := rx; exact SeqAt.EqAt.bool_int a b t
    | str b => obtain ⟨t, rfl⟩ := rx; exact SeqAt.EqAt.bool_str a b t
    | _ => exact absurd (show false = true from fx) Bool.false_ne_true
  | int a =>
    obtain ⟨t', rfl⟩ := ry
    cases x with
    | non => cases rx; exact SeqAt.EqAt.int_none a t'
    | bl b => cases rx; exact SeqAt.EqAt.int_bool a t' b
    | int b => obtain ⟨t, rfl⟩ := rx; exact SeqAt.EqAt.int_int a t' b t
    | str b => obtain ⟨t, rfl⟩ := rx; exact SeqAt.EqAt.int_str a t' b t
    | _ => exact absurd (show false = true from fx) Bool.false_ne_true
  | str a =>
    obtain ⟨t', rfl⟩ := ry
    cases x with
    | non => cases rx; exact SeqAt.EqAt.str_none a t'
    | bl b => cases rx; exact SeqAt.EqAt.str_bool a t' b
    | int b => obtain ⟨t, rfl⟩ := rx; exact SeqAt.EqAt.str_int a t' b t
    | str b => obtain ⟨t, rfl⟩ := rx; exact SeqAt.EqAt.str_str a t' b t
    | _ => exact absurd (show false = true from fx) Bool.false_ne_true
  | _ => exact absurd (show false = true from fy) Bool.false_ne_true
def eqU (x : V) (u : Value) : Bool := match u with
  | .none => eqV .non x
  | .bool b => eqV (.bl b) x
  | .int i _ => eqV (.int i) x
  | .str z _ => eqV (.str z) x
  | _ => false
theorem eqU_of {x y : V} {u : Value} (r : RelV y u) (f : flatV y = true) : eqU x u = eqV y x := by
  cases y with
  | non => cases r; rfl
  | bl b => cases r; rfl
  | int i => obtain ⟨t, rfl⟩ := r; rfl
  | str z => obtain ⟨t, rfl⟩ := r; rfl
  | _ => exact absurd (show false = true from f) Bool.false_ne_true
theorem any_eqU {x : V} : ∀ {xs : List V} {us : List Value}, Vals xs us → xs.all flatV = true → us.any (eqU x) = xs.any fun y => eqV y x
  | _, _, .nil, _ => rfl
  | y :: xs, u :: us, .cons r t, f => by
    rw [List.all_cons, Bool.and_eq_true] at f
    rw [List.any_cons, List.any_cons, eqU_of r f.1, any_eqU t f.2]
theorem mem_eqAt {A : Around} {s : Shared} {x : V} {v : Value} (rx : RelV x v) (fx : flatV x = true) : ∀ {xs : List V} {us : List Value}, Vals xs us → xs.all flatV = true → ∀ u ∈ us, SeqAt.EqAt A s u v (eqU x u)
  | _, _, .nil, _ => fun u hu => by cases hu
  | y :: xs, u :: us, .cons r t, f => fun u' hu => by
    rw [List.all_cons, Bool.and_eq_true] at f
    rcases List.mem_cons.mp hu with rfl | hu
    · rw [eqU_of r f.1]; exact eqAt_V r rx f.1 fx
    · exact mem_eqAt rx fx t f.2 u' hu
def inV (x : V) (xs : List V) : Bool := xs.any fun y => eqV y x
def rIn (K : PySem.W.Frag) (neg : Bool) : R2 := fun x y H Q => ∃ p xs, y = .ref p ∧ (SqL K H p xs ∨ SqT K H p xs) ∧ flatV x = true ∧ xs.all flatV = true ∧ Q (.bl (if neg then !inV x xs else inV x xs)) H
theorem op_in_seq : OpR X (compareOp .In) (rIn X.K false) := by
  intro pins s σ H x y v u Q I rx ry h
  obtain ⟨p, xs, rfl, hq, fx, fs, q⟩ := h
  cases ry
  rcases hq with hq | hq
  · obtain ⟨its, r, pl, hz⟩ := I.list hq
    refine SeqAt.in_listAt (eqU x) pl.isList (fun w hw => mem_eqAt rx fx r fs w (by simpa using hw)) ⟨.bl _, H, I, rfl, ?_⟩
    rw [show its.toArray.any (eqU x) = its.any (eqU x) by simp, any_eqU r fs]
    exact q
  · obtain ⟨its, r, pl, hz⟩ := I.tuple hq
    refine SeqAt.in_tupleAt (eqU x) pl (fun w hw => mem_eqAt rx fx r fs w (by simpa using hw)) ⟨.bl _, H, I, rfl, ?_⟩
    rw [show its.toArray.any (eqU x) = its.any (eqU x) by simp, any_eqU r fs]
    exact q
theorem op_notIn_seq : OpR X (compareOp .NotIn) (rIn X.K true) := by
  intro pins s σ H x y v u Q I rx ry h
  obtain ⟨p, xs, rfl, hq, fx, fs, q⟩ := h
  cases ry
  rcases hq with hq | hq
  · obtain ⟨its, r, pl, hz⟩ := I.list hq
    refine SeqAt.notIn_listAt (eqU x) pl.isList (fun w hw => mem_eqAt rx fx r fs w (by simpa using hw)) ⟨.bl _, H, I, rfl, ?_⟩
    rw [show its.toArray.any (eqU x) = its.any (eqU x) by simp, any_eqU r fs]
    exact q
  · obtain ⟨its, r, pl, hz⟩ := I.tuple hq
    refine SeqAt.notIn_tupleAt (eqU x) pl (fun w hw => mem_eqAt rx fx r fs w (by simpa using hw)) ⟨.bl _, H, I, rfl, ?_⟩
    rw [show its.toArray.any (eqU x) = its.any (eqU x) by simp, any_eqU r fs]
    exact q
theorem op_notIn_str : OpR X (compareOp .NotIn) (fun x y H Q => ∃ i j, x = .str i ∧ y = .str j ∧ Q (.bl (!(!(Builtin.Str.occurrences j i 0 j.length 1).isEmpty))) H) := by
  intro pins s σ H x y v u Q I rx ry h
  obtain ⟨i, j, rfl, rfl, q⟩ := h
  obtain ⟨t, rfl⟩ := rx
  obtain ⟨t', rfl⟩ := ry
  exact notIn_str ⟨.bl _, H, I, rfl, q⟩
theorem call_len_seq : CallR X (.builtin "len") (fun xs H Q => ∃ p ys, xs = [.ref p] ∧ (SqL X.K H p ys ∨ SqT X.K H p ys) ∧ Q (.int ys.length) H) := by
  intro pins s σ H xs us Q I r h
  obtain ⟨p, ys, rfl, hq, q⟩ := h
  obtain ⟨u, rfl, rx⟩ := vals1 r
  cases rx
  have hn := line63
  rcases hq with hq | hq
  · obtain ⟨its, r', pl, hz⟩ := I.list hq
    have hlen := r'.length
    exact Calls.call_len_list pl.isList (by simp only [List.size_toArray] <;> omega) ⟨.int ys.length, H, I.tok _, ⟨s.toks + 1, by rw [List.size_toArray, hlen]⟩, q⟩
  · obtain ⟨its, r', pl, hz⟩ := I.tuple hq
    have hlen := r'.length
    exact len_tuple pl (by simp only [List.size_toArray] <;> omega) ⟨.int ys.length, H, I.tok _, ⟨s.toks + 1, by rw [List.size_toArray, hlen]⟩, q⟩
theorem call_len_str : CallR X (.builtin "len") (fun xs H Q => ∃ z, xs = [.str z] ∧ z.length ≤ sizeLine ∧ Q (.int z.length) H) := by
  intro pins s σ H xs us Q I r h
  obtain ⟨z, rfl, hz, q⟩ := h
  obtain ⟨u, rfl, t, rfl⟩ := vals1 r
  have hn := line63
  exact len_str (by omega) ⟨.int z.length, H, I.tok _, ⟨_, rfl⟩, q⟩
theorem CallR.or {f : Value} {r r' : List V → Hp → VK → Prop} (h : CallR X f r) (h' : CallR X f r') : CallR X f (fun xs H Q => r xs H Q ∨ r' xs H Q) := by
  intro pins s σ H xs us Q I rs q
  rcases q with q | q
  · exact h pins s σ H xs us Q I rs q
  · exact h' pins s σ H xs us Q I rs q
theorem call_list_of : CallR X (.type "list") (fun xs H Q => ∃ p ys, xs = [.ref p] ∧ (SqL X.K H p ys ∨ SqT X.K H p ys) ∧ ∀ l, H l = none → Q (.ref l) (upd H l (.lst ys))) := by
  intro pins s σ H xs us Q I r h
  obtain ⟨p, ys, rfl, hq, q⟩ := h
  obtain ⟨u, rfl, rx⟩ := vals1 r
  cases rx
  have fin : ∀ (its : List Value), Vals ys its → ys.length ≤ sizeLine → ∀ (h' : Heap) (c' : Nat), (∀ b o', s.heap.get? b = some o' → h'.get? b = some o') →
      h'.get? s.heap.objs.size = some { cls := .type "list", dict := none, data := .seq its.toArray c', slots := #[] } → EP X pins σ Q (.ref s.heap.objs.size) { s with heap := h' } := fun its r' hz h' c' kp e =>
    ⟨.ref s.heap.objs.size, _, I.laid (t' := s.toks) kp (Nat.le_refl _) (show ObjOk X.prog X.w _ h' _ (.lst ys) from ⟨hz, its, c', r', e⟩), rfl, q _ (I.hok.fresh (Nat.le_refl _))⟩
  rcases hq with hq | hq
  · obtain ⟨its, r', pl, hz⟩ := I.list hq
    have hlen := r'.length
    obtain ⟨o, ho, hc, n, hd⟩ := pl.isList
    exact call_list_seq p (.inl rfl) ho hc hd (fun h' c' kp e => fin its r' hz h' c' kp e) (by simp only [List.size_toArray] <;> omega)
  · obtain ⟨its, r', pl, hz⟩ := I.tuple hq
    have hlen := r'.length
    obtain ⟨o, ho, hc, n, hd⟩ := pl
    exact call_list_seq p (.inr rfl) ho hc hd (fun h' c' kp e => fin its r' hz h' c' kp e) (by simp only [List.size_toArray] <;> omega)
theorem call_tuple_of : CallR X (.type "tuple") (fun xs H Q => ∃ p ys, xs = [.ref p] ∧ ((SqL X.K H p ys ∧ ∀ l, H l = none → Q (.ref l) (upd H l (.tup ys))) ∨ (SqT X.K H p ys ∧ Q (.ref p) H))) := by
  intro pins s σ H xs us Q I r h
  obtain ⟨p, ys, rfl, h⟩ := h
  obtain ⟨u, rfl, rx⟩ := vals1 r
  cases rx
  rcases h with ⟨hq, q⟩ | ⟨hq, q⟩
  · obtain ⟨its, r', pl, hz⟩ := I.list hq
    have hlen := r'.length
    refine call_tuple_list pl.isList (fun h' kp => ?_) (by simp only [List.size_toArray] <;> omega)
    have I1 : Inv X pins σ H { s with heap := h' } := I.kept (t' := s.toks) kp
    have I2 : Inv X pins σ (upd H h'.objs.size (.tup ys)) { s with heap := h'.push { cls := .type "tuple", data := .seq its.toArray } } :=
      I1.laid (t' := s.toks) (fun b o e => Heap.get?_push_of_some _ e) (Nat.le_refl _) (show ObjOk X.prog X.w _ _ _ (.tup ys) from ⟨hz, its, r', IsTup.new _ _⟩)
    exact ⟨.ref h'.objs.size, _, I2, rfl, q _ (I1.hok.fresh (Nat.le_refl _))⟩
  · obtain ⟨its, r', pl, hz⟩ := I.tuple hq
    exact call_tuple_same pl ⟨.ref p, H, I, rfl, q⟩
def tyV (K : PySem.W.Frag) (T : String) (x : V) (H : Hp) : Prop := match x with
  | .str _ => T = "str"
  | .int _ => T = "int"
  | .ref p => (T = "list" ∧ ∃ xs, SqL K H p xs) ∨ (T = "tuple" ∧ ∃ o, K.lookup p = some o ∧ o.cls = .type "tuple" ∧ o.dict = none) ∨
      (T = "dict" ∧ ((∃ kvs, H p = some (.dK kvs)) ∨ ∃ kvs, H p = some (.dT kvs))) ∨ (T = "set" ∧ ∃ S n, H p = some (.set S n))
  | _ => False
theorem tyV_is {pins : List (Addr × Obj)} {σ : St} {H : Hp} {s : Shared} {T : String} {x : V} {v : Value} (I : Inv X pins σ H s) (r : RelV x v) (ty : tyV X.K T x H) :
    s.TypeIs v T ∧ ∀ a, v = .ref a → ∃ ob, s.heap.get? a = some ob ∧ ob.dict = none := by
  cases x with
  | str z =>
    obtain ⟨t, rfl⟩ := r
    cases (show T = "str" from ty)
    exact ⟨typeIs_str s z t, fun _ e => nomatch e⟩
  | int i =>
    obtain ⟨t, rfl⟩ := r
    cases (show T = "int" from ty)
    exact ⟨typeIs_int s i t, fun _ e => nomatch e⟩
  | ref p =>
    cases r
    rcases ty with ⟨rfl, xs, hq⟩ | ⟨rfl, o, hk, hc, hd⟩ | ⟨rfl, hk⟩ | ⟨rfl, S, n, hk⟩
    · obtain ⟨its, _, pl, _⟩ := I.list hq
      refine ⟨pl.isList.typeIs, fun a e => ?_⟩
      cases e
      obtain ⟨o, n, e, c, hd, _⟩ := pl
      exact ⟨o, e, hd⟩
    · refine ⟨⟨o, I.kIn p o hk, hc⟩, fun a e => ?_⟩
      cases e
      exact ⟨o, I.kIn _ o hk, hd⟩
    · have z : ∃ o, s.heap.get? p = some o ∧ o.ExactDict := by
        rcases hk with ⟨kvs, hk⟩ | ⟨kvs, hk⟩
        · obtain ⟨_, _, _, _, o, _, _, e, ex, _⟩ := I.hok p _ hk
          exact ⟨o, e, ex⟩
        · obtain ⟨_, _, _, _, o, _, _, e, ex, _⟩ := I.hok p _ hk
          exact ⟨o, e, ex⟩
      obtain ⟨o, e, ex⟩ := z
      refine ⟨⟨o, e, ex.1⟩, fun a e2 => ?_⟩
      cases e2
      exact ⟨o, e, ex.2.1⟩
    · obtain ⟨o, _, _, _, e, ex, _⟩ := I.hok p _ hk
      refine ⟨⟨o, e, ex.1⟩, fun a e2 => ?_⟩
      cases e2
      exact ⟨o, e, ex.2.1⟩
  | _ => exact False.elim ty
def tBM0 (K : PySem.W.Frag) (T : String) (r : V → List V → Hp → VK → Prop) (to : TE) : TE := fun σ H Q => to σ H fun x H1 => tyV K T x H1 ∧ r x [] H1 Q
def tBM (K : PySem.W.Frag) (T : String) (r : V → List V → Hp → VK → Prop) (to : TE) (t : TA) : TE := fun σ H Q => to σ H fun x H1 => tyV K T x H1 ∧ t σ H1 fun xs H2 => r x xs H2 Q
variable {o e : Expr} {es : List Expr} {to : TE} {t : TA} {name : Str} {apos cpos : Pos} {T id : String} {r : V → List V → Hp → VK → Prop}
theorem pe_bm0 (pa : PlainAttrs T) (slot : Slot T name id) (hty : typeOf (.builtin id) = pure (.type "method_descriptor")) (hm : MtR X id r) (ho : PE X o to)
    (hbase : attributeBase o name X.env (eval o X.env) = eval o X.env := by rfl) (hline : (apos.endLine == cpos.line) = true := by rfl) : PE X (.Call (.Attribute o name apos) [] [] cpos) (tBM0 X.K T r to) := by
  intro pins s σ H Q I h
  refine wpAny_Call_method0_late hbase hline (thn (ho pins s σ H _ I h) fun v s1 ⟨x, H1, I1, r1, ty, q1⟩ => ?_)
  obtain ⟨h1, h2⟩ := tyV_is I1 r1 ty
  exact ⟨T, id, pa, slot, hty, h1, h2, Calls.callWith_builtin rfl (PySem.evalArgs_none (hm pins s1 σ H1 x [] v [] Q I1 r1 .nil q1))⟩
theorem pe_bm (pa : PlainAttrs T) (slot : Slot T name id) (hty : typeOf (.builtin id) = pure (.type "method_descriptor")) (hm : MtR X id r) (ho : PE X o to) (ha : PA X (e :: es) t)
    (hbase : attributeBase o name X.env (eval o X.env) = eval o X.env := by rfl)
    (hfew : ((backTo cpos (starEach (e :: es) X.env)).all (fun x => !x.1) && (backToKw cpos (keywordEach [] X.env)).all (fun x => x.1.isSome)
      && decide ((e :: es).length + ([] : List Keyword).length + (if ([] : List Keyword).isEmpty then 0 else 1) < 30)) = true := by rfl)
    (hline : (apos.endLine == cpos.line) = true := by rfl) (hs : starEach (e :: es) X.env = (false, eval e X.env) :: starEach es X.env := by rfl) (hplain : (backTo cpos (starEach es X.env)).any (·.1) = false := by rfl) :
    PE X (.Call (.Attribute o name apos) (e :: es) [] cpos) (tBM X.K T r to t) := by
  intro pins s σ H Q I h
  refine wpAny_Call_method_late hbase hfew hline rfl (thn (ho pins s σ H _ I h) fun v s1 ⟨x, H1, I1, r1, ty, q1⟩ => ?_)
  obtain ⟨h1, h2⟩ := tyV_is I1 r1 ty
  refine ⟨T, id, pa, slot, hty, h1, h2, ?_⟩
  have hA := ha cpos pins s1 σ H1 _ I1 q1
  rw [hs] at hA ⊢
  refine Calls.callWith_builtin (by show (false || (backTo cpos (starEach es X.env)).any (·.1)) = false; rw [hplain] <;> rfl) (Calls.evalArgs_plain ?_)
  exact thn hA fun us s2 ⟨vs, H2, I2, r2, q2⟩ => hm pins s2 σ H2 x vs v us Q I2 r1 r2 q2
end
end L2
namespace L2
open PySem PySem.Spec PyProof.Rows
def MtM (X : Cx) (id : String) (r : V → List V → Hp → VK → Prop) : Prop :=
  ∀ (pins : List (Addr × Obj)) (s : Shared) (σ : St) (H : Hp) (x : V) (xs : List V) (v : Value) (us : List Value) (Q : VK), Inv X pins σ H s → RelV x v → Vals xs us → r x xs H Q →
    wpAny (model X.prog X.w) X.A (call (.builtin id) (v :: us)) (EP X pins σ Q) X.xe s
theorem Vals.one : ∀ {x : V} {us : List Value}, Vals [x] us → ∃ u, us = [u] ∧ RelV x u
  | _, _, .cons r .nil => ⟨_, rfl, r⟩
theorem Vals.two : ∀ {x y : V} {us : List Value}, Vals [x, y] us → ∃ u v, us = [u, v] ∧ RelV x u ∧ RelV y v
  | _, _, _, .cons r (.cons q .nil) => ⟨_, _, rfl, r, q⟩
theorem Vals.zero : ∀ {us : List Value}, Vals [] us → us = []
  | _, .nil => rfl
theorem Vals.dropLast {xs : List V} {us : List Value} (h : Vals xs us) : Vals xs.dropLast us.dropLast := by
  induction h with
  | nil => exact .nil
  | cons r t ih =>
    cases t with
    | nil => exact .nil
    | cons q t' => exact .cons r ih
theorem Vals.eraseIdx : ∀ {xs : List V} {us : List Value} (i : Nat), Vals xs us → Vals (xs.eraseIdx i) (us.eraseIdx i)
  | _, _, _, .nil => .nil
  | _, _, 0, .cons _ t => t
  | _, _, i + 1, .cons r t => .cons r (Vals.eraseIdx i t)
theorem Vals.reverse {xs : List V} {us : List Value} (h : Vals xs us) : Vals xs.reverse us.reverse := by
  induction h with
  | nil => exact .nil
  | cons r t ih => rw [List.reverse_cons, List.reverse_cons]; exact Vals.append ih (.cons r .nil)
theorem Vals.rep {xs : List V} {us : List Value} (h : Vals xs us) : ∀ k : Nat, Vals (List.replicate k xs).flatten (List.replicate k us).flatten
  | 0 => .nil
  | k + 1 => by
    rw [List.replicate_succ, List.replicate_succ, List.flatten_cons, List.flatten_cons]
    exact Vals.append h (Vals.rep h k)
theorem erase_last {α : Type} (l : List α) : l.eraseIdx (l.length - 1) = l.dropLast := by
  induction l with
  | nil => rfl
  | cons a r ih =>
    cases r with
    | nil => rfl
    | cons b r =>
      have e : (a :: b :: r).length - 1 = ((b :: r).length - 1) + 1 := by
        have h1 : (a :: b :: r).length = r.length + 2 := rfl
        have h2 : (b :: r).length = r.length + 1 := rfl
        omega
      rw [e, List.eraseIdx_cons_succ, ih]
      all_goals rfl
theorem len_erase {α : Type} : ∀ (l : List α) (i : Nat), (l.eraseIdx i).length ≤ l.length
  | [], _ => Nat.le_refl _
  | _ :: _, 0 => Nat.le_succ _
  | _ :: r, i + 1 => Nat.succ_le_succ (len_erase r i)
theorem foldl_rep (its : List Value) : ∀ (k : Nat) (acc : List Value),
    List.foldl (fun x1 x2 => x1 ++ x2) acc.toArray (List.replicate k its.toArray) = (acc ++ (List.replicate k its).flatten).toArray
  | 0, acc => by simp
  | k + 1, acc => by
    have e : acc.toArray ++ its.toArray = (acc ++ its).toArray := by simp
    have e2 : (acc ++ its) ++ (List.replicate k its).flatten = acc ++ (List.replicate (k + 1) its).flatten := by
      rw [List.replicate_succ, List.flatten_cons, List.append_assoc]
    rw [← e2, ← foldl_rep its k (acc ++ its), ← e, List.replicate_succ, List.foldl_cons]
section
variable {X : Cx} {pins : List (Addr × Obj)} {σ : St} {H : Hp} {s : Shared} {l b : Addr} {xs ys zs : List V}
theorem Inv.lset {its its' : List Value} {n : Nat} {f : Array Value → Array Value} {t' : Nat} (I : Inv X pins σ H s) (hH : H l = some (.lst xs))
    (e : s.heap.get? l = some { cls := .type "list", data := .seq its.toArray n }) (hf : f its.toArray = its'.toArray) (hv : Vals ys its') (hz : ys.length ≤ sizeLine) :
    Inv X pins σ (upd H l (.lst ys)) { s with heap := s.heap.update l (Obj.mapSeq f), toks := t' } := by
  have q := PySem.IsL.update e f
  rw [hf] at q
  refine I.write (x := l) (e := l) (by rw [hH]; exact trivial) (.inl rfl) (fun b' u hb hu => (Heap.get?_update_other s.heap (Obj.mapSeq f) (Ne.symm hb)).trans hu) ⟨_, q⟩ ?_
  exact ⟨hz, its', _, hv, q⟩
theorem Inv.lnew {its : List Value} {t' : Nat} (I : Inv X pins σ H s) (hv : Vals ys its) (hz : ys.length ≤ sizeLine) :
    Inv X pins σ (upd H s.heap.objs.size (.lst ys)) { s with heap := s.heap.push { cls := .type "list", data := .seq its.toArray }, toks := t' } :=
  I.laid (fun _ _ q => Heap.get?_push_of_some _ q) (Nat.le_refl _) ⟨hz, its, 0, hv, Heap.get?_push_size _ rfl⟩
theorem Inv.fresh (I : Inv X pins σ H s) : H s.heap.objs.size = none := I.hok.fresh (Nat.le_refl _)
theorem Inv.lstM (I : Inv X pins σ H s) (hH : H l = some (.lst xs)) : xs.length ≤ sizeLine ∧ ∃ (its : List Value) (n : Nat), Vals xs its ∧ xs.length = its.length ∧ s.heap.get? l = some { cls := .type "list", data := .seq its.toArray n } := by
  obtain ⟨z, its, n, r, e⟩ := I.hok l _ hH
  exact ⟨z, its, n, r, r.length, e⟩
theorem notLongL {n : Nat} (h : n ≤ sizeLine) : Builtin.List.listTooLong n = false := by
  unfold Builtin.List.listTooLong
  exact decide_eq_false (by omega)
end
section
variable {X : Cx}
def rAppend : V → List V → Hp → VK → Prop := fun x vs H Q => ∃ l xs y, x = .ref l ∧ vs = [y] ∧ H l = some (.lst xs) ∧ xs.length < sizeLine ∧ Q .non (upd H l (.lst (xs ++ [y])))
theorem mt_append : MtM X "list.append" rAppend := by
  intro pins s σ H x vs v us Q I rx rv h
  obtain ⟨l, xs, y, rfl, rfl, hH, hz, q⟩ := h
  cases rx
  obtain ⟨u, rfl, ru⟩ := rv.one
  obtain ⟨z, its, n, r, hl, e⟩ := I.lstM hH
  refine call_meets F.slot_list_append ⟨_, e, rfl⟩ F.entry_list_append (F.args_list_append_2 _ _) (PySem.list_append l its.toArray n u (by rw [List.size_toArray]; omega)) ⟨e, ?_⟩
  refine ⟨.non, _, I.lset (its' := its ++ [u]) hH e (by simp) (r.append (.cons ru .nil)) ?_, rfl, q⟩
  rw [List.length_append, List.length_singleton]
  omega
def rExtend : V → List V → Hp → VK → Prop := fun x vs H Q => ∃ l b xs zs, x = .ref l ∧ vs = [.ref b] ∧ H l = some (.lst xs) ∧ H b = some (.lst zs) ∧ xs.length + zs.length ≤ sizeLine ∧ Q .non (upd H l (.lst (xs ++ zs)))
theorem mt_extend : MtM X "list.extend" rExtend := by
  intro pins s σ H x vs v us Q I rx rv h
  obtain ⟨l, b, xs, zs, rfl, rfl, hH, hB, hz, q⟩ := h
  cases rx
  obtain ⟨u, rfl, ru⟩ := rv.one
  cases ru
  obtain ⟨z, its, n, r, hl, e⟩ := I.lstM hH
  obtain ⟨z2, its2, n2, r2, hl2, e2⟩ := I.lstM hB
  have hsz : its.toArray.size + its2.toArray.size ≤ sizeLine := by rw [List.size_toArray, List.size_toArray]; omega
  have hlong : ¬ (!its.toArray.isEmpty && Builtin.List.listTooLong (its.toArray.size + its2.toArray.size)) = true := by
    rw [notLongL hsz, Bool.and_false]
    exact Bool.false_ne_true
  refine call_meets F.slot_list_extend ⟨_, e, rfl⟩ F.entry_list_extend (F.args_list_extend_2 _ _)
    (AutoSeq1.list_extend_list_list_0 l its.toArray n b its2.toArray n2 hlong (by rw [List.size_toArray]; omega) (by omega)) ⟨e, e2, ?_⟩
  refine ⟨.non, _, I.lset (its' := its ++ its2) hH e (by simp) (r.append r2) ?_, rfl, q⟩
  rw [List.length_append]
  omega
def rPop : V → List V → Hp → VK → Prop := fun x vs H Q => ∃ l xs y, x = .ref l ∧ vs = [] ∧ H l = some (.lst xs) ∧ xs[xs.length - 1]? = some y ∧ Q y (upd H l (.lst xs.dropLast))
theorem mt_pop : MtM X "list.pop" rPop := by
  intro pins s σ H x vs v us Q I rx rv h
  obtain ⟨l, xs, y, rfl, rfl, hH, hy, q⟩ := h
  cases rx
  have hus := rv.zero
  subst hus
  obtain ⟨z, its, n, r, hl, e⟩ := I.lstM hH
  obtain ⟨u, hu, ru⟩ := r.get hy
  have hy' : its.toArray[its.toArray.size - 1]? = some u := by
    show its.toArray[its.length - 1]? = some u
    rw [← Array.getElem?_toList, ← hl]
    exact hu
  refine call_meets F.slot_list_pop ⟨_, e, rfl⟩ F.entry_list_pop (F.args_list_pop_1 _) (MeetsSeq.list_pop_last l its.toArray n u hy' (by rw [List.size_toArray]; omega)) ⟨e, ?_⟩
  refine ⟨y, _, I.lset (its' := its.dropLast) hH e ?_ r.dropLast ?_, ru, q⟩
  · show its.toArray.eraseIdxIfInBounds (its.toArray.size - 1) = its.dropLast.toArray
    rw [List.size_toArray, List.eraseIdxIfInBounds_toArray, erase_last]
  · rw [List.length_dropLast]
    omega
def rPopAt : V → List V → Hp → VK → Prop := fun x vs H Q => ∃ l xs i k y, x = .ref l ∧ vs = [.int i] ∧ H l = some (.lst xs) ∧ -(2 ^ 63) ≤ i ∧ i < 2 ^ 63 ∧ seqIndex? i xs.length = some k ∧ xs[k]? = some y ∧ Q y (upd H l (.lst (xs.eraseIdx k)))
theorem mt_popAt : MtM X "list.pop" rPopAt := by
  intro pins s σ H x vs v us Q I rx rv h
  obtain ⟨l, xs, i, k, y, rfl, rfl, hH, h1, h2, hk, hy, q⟩ := h
  cases rx
  obtain ⟨u, rfl, ru⟩ := rv.one
  obtain ⟨t, rfl⟩ := ru
  obtain ⟨z, its, n, r, hl, e⟩ := I.lstM hH
  obtain ⟨w, hw, rw'⟩ := r.get hy
  refine call_meets F.slot_list_pop ⟨_, e, rfl⟩ F.entry_list_pop (F.args_list_pop_2 _ _)
    (MeetsSeq.list_pop_at l its.toArray n i t k w (fitsIndex_both h1 h2) (by rw [List.size_toArray, ← hl]; exact hk) (by rw [← Array.getElem?_toList]; exact hw) (by rw [List.size_toArray]; omega)) ⟨e, ?_⟩
  refine ⟨y, _, I.lset (its' := its.eraseIdx k) hH e ?_ (r.eraseIdx k) ?_, rw', q⟩
  · show its.toArray.eraseIdxIfInBounds k = (its.eraseIdx k).toArray
    rw [List.eraseIdxIfInBounds_toArray]
  · have := len_erase xs k
    omega
def rReverse : V → List V → Hp → VK → Prop := fun x vs H Q => ∃ l xs, x = .ref l ∧ vs = [] ∧ H l = some (.lst xs) ∧ Q .non (upd H l (.lst xs.reverse))
theorem mt_reverse : MtM X "list.reverse" rReverse := by
  intro pins s σ H x vs v us Q I rx rv h
  obtain ⟨l, xs, rfl, rfl, hH, q⟩ := h
  cases rx
  have hus := rv.zero
  subst hus
  obtain ⟨z, its, n, r, hl, e⟩ := I.lstM hH
  refine call_meets F.slot_list_reverse ⟨_, e, rfl⟩ F.entry_list_reverse (F.args_list_reverse_1 _) (AutoSeq1.list_reverse_list_0 l its.toArray n (by rw [List.size_toArray]; omega)) ⟨e, ?_⟩
  refine ⟨.non, _, I.lset (its' := its.reverse) hH e (by simp) r.reverse ?_, rfl, q⟩
  rw [List.length_reverse]
  omega
def rClear : V → List V → Hp → VK → Prop := fun x vs H Q => ∃ l xs, x = .ref l ∧ vs = [] ∧ H l = some (.lst xs) ∧ Q .non (upd H l (.lst []))
theorem mt_clear : MtM X "list.clear" rClear := by
  intro pins s σ H x vs v us Q I rx rv h
  obtain ⟨l, xs, rfl, rfl, hH, q⟩ := h
  cases rx
  have hus := rv.zero
  subst hus
  obtain ⟨z, its, n, r, hl, e⟩ := I.lstM hH
  refine call_meets F.slot_list_clear ⟨_, e, rfl⟩ F.entry_list_clear (F.args_list_clear_1 _) (AutoSeq1.list_clear_list_0 l its.toArray n (by rw [List.size_toArray]; omega)) ⟨e, ?_⟩
  exact ⟨.non, _, I.lset (its' := []) (ys := []) hH e rfl .nil (Nat.zero_le _), rfl, q⟩
def rCat : R2 := fun x y H Q => ∃ l b xs zs, x = .ref l ∧ y = .ref b ∧ H l = some (.lst xs) ∧ H b = some (.lst zs) ∧ xs.length + zs.length ≤ sizeLine ∧ ∀ p, H p = none → Q (.ref p) (upd H p (.lst (xs ++ zs)))
theorem op_cat : OpR X (binaryOp .Add) rCat := by
  intro pins s σ H x y v u Q I rx ry h
  obtain ⟨l, b, xs, zs, rfl, rfl, hH, hB, hz, q⟩ := h
  cases rx
  cases ry
  obtain ⟨z, its, n, r, hl, e⟩ := I.lstM hH
  obtain ⟨z2, its2, n2, r2, hl2, e2⟩ := I.lstM hB
  refine PySem.P.add_list e e2 ?_ (by rw [List.size_toArray, List.size_toArray]; omega)
  have ea : its.toArray ++ its2.toArray = (its ++ its2).toArray := by simp
  rw [ea]
  exact ⟨.ref _, _, I.lnew (t' := s.toks) (r.append r2) (by rw [List.length_append]; omega), rfl, q _ I.fresh⟩
def rRep : R2 := fun x y H Q => ∃ l k xs, x = .ref l ∧ y = .int k ∧ H l = some (.lst xs) ∧ -(2 ^ 63) ≤ k ∧ k < 2 ^ 63 ∧ xs.length * k.toNat ≤ sizeLine ∧
  ∀ p, H p = none → Q (.ref p) (upd H p (.lst (List.replicate k.toNat xs).flatten))
theorem len_rep {α : Type} (xs : List α) (k : Nat) : (List.replicate k xs).flatten.length = k * xs.length := by
  induction k with
  | zero => simp
  | succ k ih => rw [List.replicate_succ, List.flatten_cons, List.length_append, ih, Nat.succ_mul, Nat.add_comm]
theorem op_rep : OpR X (binaryOp .Mult) rRep := by
  intro pins s σ H x y v u Q I rx ry h
  obtain ⟨l, k, xs, rfl, rfl, hH, h1, h2, hz, q⟩ := h
  cases rx
  obtain ⟨t, rfl⟩ := ry
  obtain ⟨z, its, n, r, hl, e⟩ := I.lstM hH
  have hlen : its.toArray.size * k.toNat ≤ sizeLine := by rw [List.size_toArray, ← hl]; exact hz
  have hcap : ¬ its.toArray.size * k.toNat > (2 ^ 63 - 1) / 8 := by
    have : (sizeLine : Nat) ≤ (2 ^ 63 - 1) / 8 := by decide
    omega
  have hfit : ¬ (!Builtin.List.listFitsIndex k) = true := by
    rw [fitsIndex_both h1 h2]
    exact Bool.false_ne_true
  have hlong : ¬ Builtin.List.listTooLong (its.toArray.size * k.toNat) = true := by
    rw [notLongL hlen]
    exact Bool.false_ne_true
  have hnew : List.foldl (fun x1 x2 => x1 ++ x2) #[] (List.replicate (if its.toArray.isEmpty = true then 0 else k.toNat) its.toArray) = (List.replicate k.toNat its).flatten.toArray := by
    have f0 : ∀ m : Nat, List.foldl (fun x1 x2 => x1 ++ x2) #[] (List.replicate m its.toArray) = (List.replicate m its).flatten.toArray := fun m => by
      have := foldl_rep its m []
      rw [List.nil_append] at this
      exact this
    rw [f0]
    cases its with
    | nil => simp
    | cons a r' => rw [if_neg (by simp)]
  refine wpAny_binaryOp_repeat_ref (T := "list") (U := "int") (by decide) ⟨_, e, rfl⟩ (fun s' => typeIs_int s' k t) noFill_list_mul F.fills_int_mul F.slot_int_rmul repeat_list F.slot_int_index.lookup
    (call_meets F.slot_int_rmul (typeIs_int s k t) F.entry_int_rmul (F.args_int_rmul_2 _ _) (int___rmul___int_list k t l its.toArray n)
      ⟨e, rfl, ⟨_, e, rfl⟩, call_meets F.slot_list_mul ⟨_, e, rfl⟩ F.entry_list_mul (F.args_list_mul_2 _ _) (AutoListH.list___mul___list_int_3 l its.toArray n k t hfit hcap hlong) ⟨e, ?_⟩⟩)
  rw [hnew]
  exact ⟨.ref _, _, I.lnew (t' := s.toks) (r.rep k.toNat) (by rw [len_rep, Nat.mul_comm]; exact hz), rfl, q _ I.fresh⟩
theorem del_list {pins : List (Addr × Obj)} {s : Shared} {σ : St} {H : Hp} {l : Addr} {xs : List V} {i : Int} {t : Tok} {k : Nat} {Q : Unit → Shared → Prop} (I : Inv X pins σ H s) (hH : H l = some (.lst xs))
    (h1 : -(2 ^ 63) ≤ i) (h2 : i < 2 ^ 63) (hk : seqIndex? i xs.length = some k) (h : ∀ s', Inv X pins σ (upd H l (.lst (xs.eraseIdx k))) s' → Q () s') :
    wpAny (model X.prog X.w) X.A (delItem (.ref l) (.int i t)) Q X.xe s := by
  obtain ⟨z, its, n, r, hl, e⟩ := I.lstM hH
  refine PySem.P.delItem_list (k := k) e (fitsIndex_both h1 h2) (by rw [List.size_toArray, ← hl]; exact hk) (h _ ?_) (by rw [List.size_toArray]; omega)
  refine I.lset (its' := its.eraseIdx k) (t' := s.toks) hH e ?_ (r.eraseIdx k) ?_
  · show its.toArray.eraseIdxIfInBounds k = (its.eraseIdx k).toArray
    rw [List.eraseIdxIfInBounds_toArray]
  · have := len_erase xs k
    omega
end
section
variable {prog : Program} {w : World} {A : Around} {E : Value → Shared → Prop} {s : Shared}
theorem splice_eq (its its2 : List Value) (a c : Nat) : its.toArray.extract 0 a ++ its2.toArray ++ its.toArray.extract c its.toArray.size = (its.take a ++ its2 ++ its.drop c).toArray := by
  apply Array.toList_inj.mp
  first
    | (simp
       exact List.take_of_length_le (by simp))
    | simp [List.take_of_length_le]
    | simp
theorem bounds_run {a c n : Nat} (hac : a ≤ c) (hc : c ≤ n) : sliceBounds (some (a : Int)) (some (c : Int)) none n = ((a : Int), (c : Int), 1) := by
  simp only [sliceBounds, Option.getD_none]
  have h1 : ¬ ((a : Int) < 0) := by omega
  have h2 : ¬ ((c : Int) < 0) := by omega
  simp only [h1, h2, if_false, show (1 : Int) > 0 by decide, if_true]
  congr 1
  · omega
  · congr 1; omega
set_option maxRecDepth 100000 in
theorem setItem_slice {l b sl : Addr} {items new : Array Value} {n n2 : Nat} {vl vu : Value} {a c : Nat} {Q : Unit → Shared → Prop}
    (e : s.heap.get? l = some { cls := .type "list", data := .seq items n }) (e2 : s.heap.get? b = some { cls := .type "list", data := .seq new n2 }) (hne : l ≠ b)
    (hs : s.heap.IsSliceOf sl vl vu .none) (pl : IsPart vl (some (a : Int))) (pu : IsPart vu (some (c : Int))) (hac : a ≤ c) (hc : c ≤ items.size)
    (hsz : items.size + new.size ≤ sizeLine) (h : Q () { s with heap := s.heap.update l (Obj.mapSeq fun xs => xs.extract 0 a ++ new ++ xs.extract c xs.size) }) :
    wpAny (model prog w) A (setItem (.ref l) (.ref sl) (.ref b)) Q E s := by
  have hl : s.heap.IsList l items := PySem.IsL.isList e
  have hb : s.heap.IsList b new := PySem.IsL.isList e2
  obtain ⟨os, hos, hcs, hds⟩ := id hs
  have hTs : s.TypeIs (.ref sl) "slice" := ⟨os, hos, hcs⟩
  have hstep : ¬ ((rawPart none == rawInt 0) = true) := Bool.false_ne_true
  have hsame : Builtin.List.listSameRef (.ref l) (.ref b) = false := by
    unfold Builtin.List.listSameRef
    exact beq_eq_false_iff_ne.mpr hne
  have hmax : (max (a : Int) (c : Int)).toNat = c := by omega
  have hz' : ((fun xs : Array Value => xs.extract 0 a ++ new ++ xs.extract c xs.size) items).size ≤ sizeLine + 1 := by
    simp only [Array.size_append, Array.size_extract]
    omega
  unfold setItem
  try with_reducible refine wpAny_holding ?_
  first | refine wpAny_bind (wpAny_pure ?_) | skip
  refine wpAny_bind (wpAny_sequenceKey hl.typeIs (by decide) ?_)
  refine wpAny_bind (wpAny_callSpecial?_slot (name := Str.ofString "__setitem__") hl.typeIs slot_list_setitem
    (wpAny_call_entry slot_list_setitem hl.typeIs entry_list_setitem ?_ (args_list_setitem _ _ _)))
  show wpAny _ _ (Builtin.List.listSubscript? (.ref sl) >>= _) _ _ s
  refine wpAny_bind ?_
  unfold Builtin.List.listSubscript?
  refine wpAny_bind (wpAny_specialOf hTs slice_no_index ?_)
  simp only [Option.isNone_none, if_true]
  refine wpAny_pure ?_
  show wpAny _ _ (typeOf (.ref sl) >>= _) _ _ s
  refine wpAny_bind (wpAny_typeOf hTs ?_)
  first
    | rw [if_neg (by decide)]
    | refine PySem.W.KFB.if_not (by decide) ?_
  rw [listSliceParts_eq]
  refine wpAny_bind (wpAny_bind (wpAny_field hos hds (x := .none) rfl (wpAny_bind (wpAny_listPart .none ?_))))
  rw [if_neg hstep]
  refine wpAny_bind (wpAny_field hos hds (x := vl) rfl (wpAny_bind (wpAny_listPart pl ?_)))
  refine wpAny_bind (wpAny_field hos hds (x := vu) rfl (wpAny_bind (wpAny_listPart pu (wpAny_pure ?_))))
  first
    | simp only [hsame, Bool.false_eq_true, if_false]
    | refine PySem.W.KFB.if_not hsame ?_
    | (dsimp only
       rw [if_neg (by rw [hsame]; exact Bool.false_ne_true)])
  refine wpAny_bind (m := Builtin.List.listAllItems (.ref b) "must assign iterable to extended slice") ?_
  unfold Builtin.List.listAllItems
  refine wpAny_bind (wpAny_typeOf hb.typeIs ?_)
  first
    | refine PySem.W.KFB.if_so (by decide) ?_
    | rw [if_pos (by decide)]
    | simp only [beq_self_eq_true, Bool.true_or, if_true]
  unfold Builtin.List.listItems
  refine wpAny_bind (wpAny_seqItems e2 rfl (wpAny_pure ?_))
  refine wpAny_bind (wpAny_bind (wpAny_seqItems e rfl (wpAny_pure ?_)))
  refine wpAny_bind (wpAny_of_eq ((sliceIndices_raw (some (a : Int)) (some (c : Int)) none items.size (by simp)).trans (congrArg (pure : Int × Int × Int → Sem (Int × Int × Int)) (bounds_run hac hc))) ?_)
  show wpAny _ _ (if ((1 : Int) == 1) = true then _ else _) _ _ s
  rw [if_pos (by decide)]
  refine wpAny_bind (wpAny_rule ?_)
  first
    | simp only [notLongL hsz, Bool.false_eq_true, if_false]
    | refine PySem.W.KFB.if_not (notLongL hsz) ?_
  first | refine wpAny_bind (wpAny_pure ?_) | skip
  show wpAny _ _ (updateSeq l (fun xs => xs.extract 0 ((a : Int)).toNat ++ new ++ xs.extract (max (a : Int) (c : Int)).toNat xs.size) >>= _) _ _ s
  rw [hmax, Int.toNat_natCast]
  refine wpAny_bind (wpAny_updateSeq (hz := Nat.le_trans (Nat.le_add_right _ _) hsz) (_hz' := hz') e rfl ?_)
  refine wpAny_bind (wpAny_letGo ?_)
  first
    | exact wpAny_bind (wpAny_pure (wpAny_pure ⟨.none, rfl, wpAny_pure h⟩))
    | exact wpAny_pure ⟨.none, rfl, wpAny_pure h⟩
end
section
variable {X : Cx}
theorem set_slice {pins : List (Addr × Obj)} {s : Shared} {σ : St} {H : Hp} {l b sl : Addr} {xs ys : List V} {a c : Int} {vl vu : Value} {Q : Unit → Shared → Prop} (I : Inv X pins σ H s)
    (hH : H l = some (.lst xs)) (hB : H b = some (.lst ys)) (hne : l ≠ b) (hs : s.heap.IsSliceOf sl vl vu .none) (ra : RelV (.int a) vl) (rc : RelV (.int c) vu) (h0 : 0 ≤ a) (hac : a ≤ c) (hc : c ≤ xs.length)
    (hz : xs.length + ys.length ≤ sizeLine) (h : ∀ s', Inv X pins σ (upd H l (.lst (xs.take a.toNat ++ ys ++ xs.drop c.toNat))) s' → Q () s') :
    wpAny (model X.prog X.w) X.A (setItem (.ref l) (.ref sl) (.ref b)) Q X.xe s := by
  obtain ⟨ta, rfl⟩ := ra
  obtain ⟨tc, rfl⟩ := rc
  obtain ⟨z, its, n, r, hl, e⟩ := I.lstM hH
  obtain ⟨z2, its2, n2, r2, hl2, e2⟩ := I.lstM hB
  obtain ⟨a', rfl⟩ := Int.eq_ofNat_of_zero_le h0
  obtain ⟨c', rfl⟩ := Int.eq_ofNat_of_zero_le (Int.le_trans h0 hac)
  simp only [Int.toNat_natCast] at h
  refine setItem_slice (a := a') (c := c') e e2 hne hs (.int _ _) (.int _ _) (by omega) (by rw [List.size_toArray]; omega) (by rw [List.size_toArray, List.size_toArray]; omega) (h _ ?_)
  refine I.lset (its' := its.take a' ++ its2 ++ its.drop c') (t' := s.toks) hH e ?_ (Vals.append (Vals.append (r.take _) r2) (r.drop _)) ?_
  · exact splice_eq its its2 a' c'
  · rw [List.length_append, List.length_append, List.length_take, List.length_drop]
    omega
end
end L2
namespace L2
open PySem PySem.Spec PyProof.Rows
section
variable {κ : Type} [DecidableEq κ]
def valV (kvs : List (κ × V)) (k : κ) : Option V := (kvs.find? fun kv => decide (kv.1 = k)).map (·.2)
def putK (kvs : List (κ × V)) (k : κ) (v : V) : List (κ × V) :=
  if (kvs.any fun kv => decide (kv.1 = k)) = true then kvs.map (fun kv => if kv.1 = k then (kv.1, v) else kv) else kvs ++ [(k, v)]
def dropK (kvs : List (κ × V)) (k : κ) : List (κ × V) := kvs.filter fun kv => decide (kv.1 ≠ k)
theorem valV_nil {k : κ} : valV ([] : List (κ × V)) k = none := rfl
theorem valV_pos {p : κ × V} {r : List (κ × V)} {k : κ} (e : p.1 = k) : valV (p :: r) k = some p.2 := by simp [valV, List.find?_cons, e]
theorem valV_neg {p : κ × V} {r : List (κ × V)} {k : κ} (e : ¬ p.1 = k) : valV (p :: r) k = valV r k := by simp [valV, List.find?_cons, e]
theorem valV_any (k : κ) : ∀ kvs : List (κ × V), (kvs.any fun kv => decide (kv.1 = k)) = (valV kvs k).isSome
  | [] => rfl
  | p :: r => by
    rw [List.any_cons]
    by_cases e : p.1 = k
    · simp only [valV_pos e, decide_eq_true e, Bool.true_or, Option.isSome_some]
    · rw [valV_neg e, decide_eq_false e, Bool.false_or]; exact valV_any k r
theorem valV_map (k j : κ) (y : V) : ∀ kvs : List (κ × V), valV (kvs.map fun kv => if kv.1 = k then (kv.1, y) else kv) j = (valV kvs j).map fun x => if j = k then y else x
  | [] => rfl
  | p :: r => by
    have ih := valV_map k j y r
    rw [List.map_cons]
    by_cases h : p.1 = k
    · rw [if_pos h]
      by_cases e : p.1 = j
      · rw [valV_pos (p := (p.1, y)) e, valV_pos e, Option.map_some, if_pos (e.symm.trans h)]
      · rw [valV_neg (p := (p.1, y)) e, valV_neg e, ih]
    · rw [if_neg h]
      by_cases e : p.1 = j
      · rw [valV_pos (p := p) e, valV_pos e, Option.map_some, if_neg (fun z => h (e.trans z))]
      · rw [valV_neg (p := p) e, valV_neg e, ih]
theorem valV_snoc (k j : κ) (y : V) : ∀ kvs : List (κ × V), valV kvs k = none → valV (kvs ++ [(k, y)]) j = if j = k then some y else valV kvs j
  | [], _ => by
    by_cases e : k = j
    · rw [if_pos e.symm]; exact valV_pos (p := (k, y)) e
    · rw [if_neg (fun z => e z.symm)]; exact valV_neg (p := (k, y)) e
  | p :: r, hn => by
    rw [List.cons_append]
    have hk : ¬ p.1 = k := fun z => by rw [valV_pos z] at hn; cases hn
    rw [valV_neg hk] at hn
    have ih := valV_snoc k j y r hn
    by_cases e : p.1 = j
    · rw [valV_pos e, valV_pos e, if_neg (fun z => hk (e.trans z))]
    · rw [valV_neg e, valV_neg e, ih]
theorem valV_put (kvs : List (κ × V)) (k j : κ) (y : V) : valV (putK kvs k y) j = if j = k then some y else valV kvs j := by
  unfold putK
  by_cases a : (kvs.any fun kv => decide (kv.1 = k)) = true
  · rw [if_pos a, valV_map]
    rw [valV_any] at a
    by_cases e : j = k
    · obtain ⟨x, hx⟩ := Option.isSome_iff_exists.mp a
      rw [if_pos e, e, hx, Option.map_some, if_pos rfl]
    · rw [if_neg e]
      cases valV kvs j with
      | none => rfl
      | some x => rw [Option.map_some, if_neg e]
  · rw [if_neg a]
    refine valV_snoc k j y kvs ?_
    rw [valV_any] at a
    cases q : valV kvs k with
    | none => rfl
    | some x => rw [q] at a; exact (a rfl).elim
theorem length_putK (kvs : List (κ × V)) (k : κ) (v : V) : (putK kvs k v).length ≤ kvs.length + 1 := by
  unfold putK
  split
  · rw [List.length_map]; omega
  · rw [List.length_append, List.length_cons, List.length_nil]; omega
theorem putK_new {kvs : List (κ × V)} {k : κ} (v : V) (h : valV kvs k = none) : putK kvs k v = kvs ++ [(k, v)] := by
  unfold putK
  rw [valV_any, h]
  exact if_neg (by decide)
theorem RelO.isSome_eq {o : Option V} {u : Option Value} (r : RelO o u) : o.isSome = u.isSome := by
  cases o with
  | none => cases u with
    | none => rfl
    | some _ => exact (show False from r).elim
  | some _ => cases u with
    | none => exact (show False from r).elim
    | some _ => rfl
theorem RelO.getD {o : Option V} {u : Option Value} {d : V} {d' : Value} (r : RelO o u) (rd : RelV d d') : RelV (o.getD d) (u.getD d') := by
  cases o with
  | none => cases u with
    | none => exact rd
    | some _ => exact (show False from r).elim
  | some _ => cases u with
    | none => exact (show False from r).elim
    | some _ => exact r
theorem KV.val {kvs : List (κ × V)} {vs : List (κ × Value)} (r : KV kvs vs) (k : κ) : RelO (valV kvs k) (valueAt vs k) := by
  unfold KV at r
  induction r with
  | nil => exact True.intro
  | @cons p q ps qs h t ih =>
    obtain ⟨h1, h2⟩ := h
    by_cases e : p.1 = k
    · have e' : q.1 = k := h1.symm.trans e
      have b : valueAt (q :: qs) k = some q.2 := by simp [valueAt, List.find?_cons, e']
      rw [valV_pos e, b]; exact h2
    · have e' : ¬ q.1 = k := fun z => e (h1.trans z)
      have b : valueAt (q :: qs) k = valueAt qs k := by simp [valueAt, List.find?_cons, e']
      rw [valV_neg e, b]; exact ih
theorem KV.any {kvs : List (κ × V)} {vs : List (κ × Value)} (r : KV kvs vs) (k : κ) : (kvs.any fun kv => decide (kv.1 = k)) = vs.any fun kv => decide (kv.1 = k) := by
  unfold KV at r
  induction r with
  | nil => rfl
  | cons h t ih => rw [List.any_cons, List.any_cons, ih, h.1]
theorem KV.repl {kvs : List (κ × V)} {vs : List (κ × Value)} (r : KV kvs vs) (k : κ) {y : V} {u : Value} (ry : RelV y u) :
    KV (kvs.map fun kv => if kv.1 = k then (kv.1, y) else kv) (vs.map fun kv => if kv.1 = k then (kv.1, u) else kv) := by
  unfold KV at r ⊢
  induction r with
  | nil => exact .nil
  | @cons p q ps qs h t ih =>
    rw [List.map_cons, List.map_cons]
    refine .cons ?_ ih
    obtain ⟨h1, h2⟩ := h
    by_cases e : p.1 = k
    · rw [if_pos e, if_pos (h1.symm.trans e)]; exact ⟨h1, ry⟩
    · rw [if_neg e, if_neg (fun z => e (h1.trans z))]; exact ⟨h1, h2⟩
theorem KV.put {kvs : List (κ × V)} {vs : List (κ × Value)} (r : KV kvs vs) (k : κ) {y : V} {u : Value} (ry : RelV y u) : KV (putK kvs k y) (stored vs k u) := by
  unfold putK stored
  rw [r.any k]
  by_cases e : (vs.any fun kv => decide (kv.1 = k)) = true
  · rw [if_pos e, if_pos e]; exact r.repl k ry
  · rw [if_neg e, if_neg e]; exact Paired.snoc r ⟨rfl, ry⟩
theorem KV.drop {kvs : List (κ × V)} {vs : List (κ × Value)} (r : KV kvs vs) (k : κ) : KV (dropK kvs k) (without vs k) := by
  unfold KV at r ⊢
  unfold dropK without
  induction r with
  | nil => exact .nil
  | @cons p q ps qs h t ih =>
    obtain ⟨h1, h2⟩ := h
    rw [List.filter_cons, List.filter_cons]
    by_cases e : p.1 = k
    · have a : ¬ decide (p.1 ≠ k) = true := by simp [e]
      have b : ¬ decide (q.1 ≠ k) = true := by simp [h1.symm.trans e]
      rw [if_neg a, if_neg b]; exact ih
    · have e' : ¬ q.1 = k := fun z => e (h1.trans z)
      have a : decide (p.1 ≠ k) = true := by simp [e]
      have b : decide (q.1 ≠ k) = true := by simp [e']
      rw [if_pos a, if_pos b]; exact .cons ⟨h1, h2⟩ ih
theorem KV.keys {kvs : List (κ × V)} {vs : List (κ × Value)} (r : KV kvs vs) : kvs.map (·.1) = vs.map (·.1) := by
  unfold KV at r
  induction r with
  | nil => rfl
  | cons h t ih => rw [List.map_cons, List.map_cons, ih, h.1]
theorem KV.length {kvs : List (κ × V)} {vs : List (κ × Value)} (r : KV kvs vs) : kvs.length = vs.length := Paired.length r
theorem dropK_le (kvs : List (κ × V)) (k : κ) : (dropK kvs k).length ≤ kvs.length := List.length_filter_le _ _
end
theorem kV_is {P : Program} {w : World} {k : Key} {u : Value} (r : RelV (kV k) u) : (mixKind P w).is k u = true := by
  cases k with
  | inl i => obtain ⟨t, e⟩ := (show ∃ t, u = Value.int i t from r); subst e; exact mixKind_int P w i t
  | inr x => obtain ⟨t, e⟩ := (show ∃ t, u = Value.str x t from r); subst e; exact mixKind_str P w x t
theorem kV_inj {a b : Key} (e : kV a = kV b) : a = b := by
  cases a with
  | inl i => cases b with
    | inl j => have e' : V.int i = V.int j := e; injection e' with e'; rw [e']
    | inr y => exact nomatch (show V.int i = V.str y from e)
  | inr x => cases b with
    | inl j => exact nomatch (show V.str x = V.int j from e)
    | inr y => have e' : V.str x = V.str y := e; injection e' with e'; rw [e']
theorem kVs_inj : ∀ {a b : List Key}, a.map kV = b.map kV → a = b
  | [], [], _ => rfl
  | [], _ :: _, e => by simp at e
  | _ :: _, [], e => by simp at e
  | x :: xs, y :: ys, e => by
    rw [List.map_cons, List.map_cons] at e
    injection e with e1 e2
    rw [kV_inj e1, kVs_inj e2]
theorem items_are {P : Program} {w : World} : ∀ {ks : List Key} {us : List Value}, Vals (ks.map kV) us → ItemsAre (mixKind P w) ks us
  | [], _, r => by rw [List.map_nil] at r; cases r; exact .nil
  | k :: ks, _, r => by
    rw [List.map_cons] at r
    cases r with
    | cons h t => exact .cons (kV_is h) (items_are t)
abbrev KT (H : Hp) : List (List Key × V) → List (List Key × Addr × Value) → Prop := Paired fun p q => p.1 = q.1 ∧ H q.2.1 = some (.tup (p.1.map kV)) ∧ RelV p.2 q.2.2
theorem KT.val {H : Hp} {kvs : List (List Key × V)} {xs : List (List Key × Addr × Value)} (r : KT H kvs xs) (k : List Key) : RelO (valV kvs k) ((atKey xs k).map (·.2)) := by
  induction r with
  | nil => exact True.intro
  | @cons p q ps qs h t ih =>
    obtain ⟨h1, _, h2⟩ := h
    by_cases e : p.1 = k
    · have e' : q.1 = k := h1.symm.trans e
      have b : atKey (q :: qs) k = some q.2 := by simp [atKey, List.find?_cons, e']
      rw [valV_pos e, b]; exact h2
    · have e' : ¬ q.1 = k := fun z => e (h1.trans z)
      have b : atKey (q :: qs) k = atKey qs k := by simp [atKey, List.find?_cons, e']
      rw [valV_neg e, b]; exact ih
theorem KT.repl {H : Hp} {kvs : List (List Key × V)} {xs : List (List Key × Addr × Value)} (r : KT H kvs xs) (k : List Key) {y : V} {u : Value} (ry : RelV y u) :
    KT H (kvs.map fun kv => if kv.1 = k then (kv.1, y) else kv) (xs.map (putAt k u)) := by
  induction r with
  | nil => exact .nil
  | @cons p q ps qs h t ih =>
    rw [List.map_cons, List.map_cons]
    refine .cons ?_ ih
    obtain ⟨h1, h2, h3⟩ := h
    unfold putAt
    by_cases e : p.1 = k
    · rw [if_pos e, if_pos (h1.symm.trans e)]; exact ⟨h1, h2, ry⟩
    · rw [if_neg e, if_neg (fun z => e (h1.trans z))]; exact ⟨h1, h2, h3⟩
theorem KT.put {H : Hp} {kvs : List (List Key × V)} {xs : List (List Key × Addr × Value)} (r : KT H kvs xs) (k : List Key) {b : Addr} {y : V} {u : Value} (hb : H b = some (.tup (k.map kV))) (ry : RelV y u) :
    KT H (putK kvs k y) (storedH xs k b u) := by
  have e : (kvs.any fun kv => decide (kv.1 = k)) = (atKey xs k).isSome := by
    rw [valV_any, (r.val k).isSome_eq, Option.isSome_map]
  unfold putK storedH
  rw [e]
  by_cases q : (atKey xs k).isSome = true
  · rw [if_pos q, if_pos q]; exact r.repl k ry
  · rw [if_neg q, if_neg q]; exact Paired.snoc r ⟨rfl, hb, ry⟩
theorem KT.keeps {H H' : Hp} {kvs : List (List Key × V)} {xs : List (List Key × Addr × Value)} (r : KT H kvs xs) (ht : ∀ b ys, H b = some (.tup ys) → H' b = some (.tup ys)) : KT H' kvs xs :=
  Paired.mapP r fun _ _ z => ⟨z.1, ht _ _ z.2.1, z.2.2⟩
section
variable {P : Program} {w : World} {H : Hp} {h : Heap} {a : Addr}
theorem rd_of {u : HO} (ok : HOk P w H h) (e : Rd H a u) : ObjOk P w H h a u := e.ok ok
theorem dk_rd {kvs : List (Key × V)} (ok : HOk P w H h) (e : Rd H a (.dK kvs)) : kvs.length ≤ sizeLine ∧ (a == sysModules) = false ∧ ∃ vs, KV kvs vs ∧ h.DictOf (mixKind P w) a vs :=
  show ObjOk P w H h a (.dK kvs) from rd_of ok e
theorem dk_of {kvs : List (Key × V)} (ok : HOk P w H h) (e : H a = some (.dK kvs)) : kvs.length ≤ sizeLine ∧ (a == sysModules) = false ∧ ∃ vs, KV kvs vs ∧ h.DictOf (mixKind P w) a vs := dk_rd ok (.inl e)
theorem key_of {ks : List Key} (ok : HOk P w H h) (e : H a = some (.tup (ks.map kV))) : (tupleKind (mixKind P w)).is h ks a := by
  obtain ⟨_, its, r, o, h1, h2, n, h3⟩ := (show ObjOk P w H h a (.tup (ks.map kV)) from ok a _ e)
  exact ⟨o, its.toArray, n, h1, h2, h3, by simpa using items_are r⟩
theorem dt_rd {kvs : List (List Key × V)} (ok : HOk P w H h) (e : Rd H a (.dT kvs)) : kvs.length ≤ sizeLine ∧ (a == sysModules) = false ∧
    ∃ xs, KT H kvs xs ∧ h.DictOfH (tupleKind (mixKind P w)) a xs := by
  obtain ⟨z, y, xs, r, o, es, ep, h1, h2, h3, h4, h5⟩ := (show ObjOk P w H h a (.dT kvs) from rd_of ok e)
  refine ⟨z, y, xs, r, o, es, ep, h1, h2, h3, h4, fun x hx => ?_, h5⟩
  have all : ∀ {l : List (List Key × V)} {m : List (List Key × Addr × Value)}, KT H l m → ∀ x ∈ m, (tupleKind (mixKind P w)).is h x.1 x.2.1 := by
    intro l m q
    induction q with
    | nil => intro x hx; exact nomatch hx
    | @cons p q ps qs hq t ih =>
      intro x hx
      rcases List.mem_cons.mp hx with e | hx
      · subst e
        exact key_of ok (by rw [← hq.1]; exact hq.2.1)
      · exact ih x hx
  exact all r x hx
theorem dt_of {kvs : List (List Key × V)} (ok : HOk P w H h) (e : H a = some (.dT kvs)) : kvs.length ≤ sizeLine ∧ (a == sysModules) = false ∧
    ∃ xs, KT H kvs xs ∧ h.DictOfH (tupleKind (mixKind P w)) a xs := dt_rd ok (.inl e)
end
def DGet (H : Hp) (a : Addr) (y : V) (r : Option V) : Prop :=
  (∃ kvs k, Rd H a (.dK kvs) ∧ y = kV k ∧ r = valV kvs k) ∨ ∃ kvs k b, Rd H a (.dT kvs) ∧ y = .ref b ∧ H b = some (.tup (k.map kV)) ∧ r = valV kvs k
def DPut (H : Hp) (a : Addr) (y v : V) (H' : Hp) : Prop :=
  (∃ kvs k, H a = some (.dK kvs) ∧ y = kV k ∧ kvs.length < sizeLine ∧ H' = upd H a (.dK (putK kvs k v))) ∨
  ∃ kvs k b, H a = some (.dT kvs) ∧ y = .ref b ∧ H b = some (.tup (k.map kV)) ∧ kvs.length < sizeLine ∧ H' = upd H a (.dT (putK kvs k v))
theorem DGet.k {H : Hp} {a : Addr} {kvs : List (Key × V)} {k : Key} (e : H a = some (.dK kvs)) : DGet H a (kV k) (valV kvs k) := .inl ⟨kvs, k, .inl e, rfl, rfl⟩
theorem DGet.t {H : Hp} {a b : Addr} {kvs : List (List Key × V)} {k : List Key} (e : H a = some (.dT kvs)) (eb : H b = some (.tup (k.map kV))) : DGet H a (.ref b) (valV kvs k) := .inr ⟨kvs, k, b, .inl e, rfl, eb, rfl⟩
theorem DPut.k {H : Hp} {a : Addr} {kvs : List (Key × V)} {k : Key} {v : V} (e : H a = some (.dK kvs)) (hl : kvs.length < sizeLine) : DPut H a (kV k) v (upd H a (.dK (putK kvs k v))) := .inl ⟨kvs, k, e, rfl, hl, rfl⟩
theorem DPut.t {H : Hp} {a b : Addr} {kvs : List (List Key × V)} {k : List Key} {v : V} (e : H a = some (.dT kvs)) (eb : H b = some (.tup (k.map kV))) (hl : kvs.length < sizeLine) :
    DPut H a (.ref b) v (upd H a (.dT (putK kvs k v))) := .inr ⟨kvs, k, b, e, rfl, eb, hl, rfl⟩
section
variable {X : Cx} {pins : List (Addr × Obj)} {σ : St} {H : Hp} {s : Shared} {a : Addr} {y v : V} {u r : Value} {o : Option V} {A : Around} {E : Value → Shared → Prop}
theorem Inv.big (I : Inv X pins σ H s) : sysModules < s.heap.objs.size := by
  have h : mainGlobals < s.heap.objs.size := (I.mod.glob.keeps I.bk).lt
  exact Nat.lt_trans (by decide) h
theorem d_getItem {Q : Value → Shared → Prop} (hu : A.units + 1 < cLine) (I : Inv X pins σ H s) (g : DGet H a y (some v)) (ry : RelV y u) (h : ∀ w' s', Inv X pins σ H s' → RelV v w' → Q w' s') :
    wpAny (model X.prog X.w) A (getItem (.ref a) u) Q E s := by
  rcases g with ⟨kvs, k, e, ey, l⟩ | ⟨kvs, k, b, e, ey, eb, l⟩
  · subst ey
    obtain ⟨z, hd, vs, rel, dd⟩ := dk_rd I.hok e
    obtain ⟨w', hw, rw'⟩ := RelO.some_of (v := v) (o := valueAt vs k) (by rw [l]; exact rel.val k)
    exact wpAny_getItem_of (kV_is ry) dd.mapOf hw (h w' _ (I.tok _) rw')
  · subst ey
    cases (show u = Value.ref b from ry)
    obtain ⟨z, hd, xs, rel, dd⟩ := dt_rd I.hok e
    obtain ⟨w', hw, rw'⟩ := RelO.some_of (v := v) (o := (atKey xs k).map (·.2)) (by rw [l]; exact rel.val k)
    obtain ⟨p, hp, hp2⟩ := Option.map_eq_some_iff.mp hw
    refine wpAny_getItem_heap (tupleKind_room_in1 hu) (key_of I.hok eb) dd hp ?_
    rw [hp2]
    exact h w' _ (I.tok _) rw'
theorem d_in {Q : Value → Shared → Prop} (hu : A.units + 1 < cLine) (I : Inv X pins σ H s) (g : DGet H a y o) (ry : RelV y u) (h : ∀ s', Inv X pins σ H s' → Q (.bool o.isSome) s') :
    wpAny (model X.prog X.w) A (compareOp .In u (.ref a)) Q E s := by
  rcases g with ⟨kvs, k, e, ey, l⟩ | ⟨kvs, k, b, e, ey, eb, l⟩
  · subst ey
    obtain ⟨z, hd, vs, rel, dd⟩ := dk_rd I.hok e
    refine wpAny_in_of (kV_is ry) hd dd.mapOf ?_
    rw [← (rel.val k).isSome_eq, ← l]
    exact h _ (I.tok _)
  · subst ey
    cases (show u = Value.ref b from ry)
    obtain ⟨z, hd, xs, rel, dd⟩ := dt_rd I.hok e
    refine wpAny_in_heap (tupleKind_room_in1 hu) (key_of I.hok eb) hd dd ?_
    have q := (rel.val k).isSome_eq
    rw [Option.isSome_map] at q
    rw [← q, ← l]
    exact h _ (I.tok _)
theorem d_notIn {Q : Value → Shared → Prop} (hu : A.units + 1 < cLine) (I : Inv X pins σ H s) (g : DGet H a y o) (ry : RelV y u) (h : ∀ s', Inv X pins σ H s' → Q (.bool (!o.isSome)) s') :
    wpAny (model X.prog X.w) A (compareOp .NotIn u (.ref a)) Q E s := by
  rcases g with ⟨kvs, k, e, ey, l⟩ | ⟨kvs, k, b, e, ey, eb, l⟩
  · subst ey
    obtain ⟨z, hd, vs, rel, dd⟩ := dk_rd I.hok e
    refine wpAny_notIn_of (kV_is ry) hd dd.mapOf ?_
    rw [← (rel.val k).isSome_eq, ← l]
    exact h _ (I.tok _)
  · subst ey
    cases (show u = Value.ref b from ry)
    obtain ⟨z, hd, xs, rel, dd⟩ := dt_rd I.hok e
    refine wpAny_notIn_heap (tupleKind_room_in1 hu) (key_of I.hok eb) hd dd ?_
    have q := (rel.val k).isSome_eq
    rw [Option.isSome_map] at q
    rw [← q, ← l]
    exact h _ (I.tok _)
theorem d_write {h' : Heap} {t' : Nat} {ob : HO} (I : Inv X pins σ H s) (mu : Mut (H a)) (hs : Heap.SameBut a s.heap h') (he : ∃ q, h'.get? a = some q) (new : ObjOk X.prog X.w (upd H a ob) h' a ob) :
    Inv X pins σ (upd H a ob) { s with heap := h', toks := t' } :=
  I.write (x := a) (e := a) mu (.inl rfl) (fun b q hb z => (hs.2 b hb).trans z) he new
theorem dk_new {P : Program} {w : World} {H' : Hp} {h' : Heap} {kvs : List (Key × V)} {vs : List (Key × Value)} (z : kvs.length ≤ sizeLine) (hd : (a == sysModules) = false) (rel : KV kvs vs) (dd : h'.DictOf (mixKind P w) a vs) :
    ObjOk P w H' h' a (.dK kvs) := ⟨z, hd, vs, rel, dd⟩
theorem d_setItem {H' : Hp} {Q : Unit → Shared → Prop} (hu : A.units + 1 < cLine) (I : Inv X pins σ H s) (g : DPut H a y v H') (ry : RelV y u) (rv : RelV v r) (h : ∀ s', Inv X pins σ H' s' → Q () s') :
    wpAny (model X.prog X.w) A (setItem (.ref a) u r) Q E s := by
  rcases g with ⟨kvs, k, e, ey, l, eH⟩ | ⟨kvs, k, b, e, ey, eb, l, eH⟩
  · subst ey eH
    obtain ⟨z, hd, vs, rel, dd⟩ := dk_of I.hok e
    have hz : vs.length ≤ sizeLine := by rw [← rel.length]; exact z
    have hl : (putK kvs k v).length ≤ sizeLine := by have := length_putK kvs k v; omega
    refine wpAny_setItem_pairs (hsz := hz) (kV_is ry) dd fun h' dd' hs => h _ ?_
    have he : ∃ q, h'.get? a = some q := let ⟨q, _, _, hq, _⟩ := dd'; ⟨q, hq⟩
    exact d_write I (by rw [e]; exact True.intro) hs he (dk_new hl hd (rel.put k rv) dd')
  · subst ey eH
    cases (show u = Value.ref b from ry)
    obtain ⟨z, hd, xs, rel, dd⟩ := dt_of I.hok e
    have hz : xs.length ≤ sizeLine := by rw [← Paired.length rel]; exact z
    have hl : (putK kvs k v).length ≤ sizeLine := by have := length_putK kvs k v; omega
    refine wpAny_setItem_heap (hsz := hz) (tupleKind_room_in1 hu) (key_of I.hok eb) dd fun h' dd' hs => h _ ?_
    obtain ⟨q, es, ep, hq, h2, h3, h4, _, h5⟩ := dd'
    refine d_write I (by rw [e]; exact True.intro) hs ⟨q, hq⟩ ⟨hl, hd, _, (rel.put k eb rv).keeps fun c ys ec => ?_, q, es, ep, hq, h2, h3, h4, h5⟩
    rw [upd_ne (ne_of ec e (fun z => nomatch z))]
    exact ec
end
section
variable {X : Cx} {pins : List (Addr × Obj)} {σ : St} {H : Hp} {s : Shared} {a : Addr} {kvs : List (Key × V)} {k : Key} {u : Value} {A : Around} {E : Value → Shared → Prop}
theorem d_delItem {Q : Unit → Shared → Prop} (I : Inv X pins σ H s) (e : H a = some (.dK kvs)) (ry : RelV (kV k) u) (l : (valV kvs k).isSome = true) (h : ∀ s', Inv X pins σ (upd H a (.dK (dropK kvs k))) s' → Q () s') :
    wpAny (model X.prog X.w) A (delItem (.ref a) u) Q E s := by
  obtain ⟨z, hd, vs, rel, dd⟩ := dk_of I.hok e
  refine wpAny_delItem_slot dd.typeIs (by decide) PySem.F.slot_dict_delitem
    (call_meetsIn PySem.F.slot_dict_delitem dd.typeIs PySem.F.entry_dict_delitem (PySem.F.args_dict_delitem_2 _ _) (meets_dict_delitem_pairs (mixKind X.prog X.w) a (kV_is ry)) ⟨vs, dd, by rw [← rel.length]; exact z, by rw [← (rel.val k).isSome_eq]; exact l, fun h' dd' hs => h _ ?_⟩)
  have he : ∃ q, h'.get? a = some q := let ⟨q, _, _, hq, _⟩ := dd'; ⟨q, hq⟩
  exact d_write I (by rw [e]; exact True.intro) hs he (dk_new (Nat.le_trans (dropK_le kvs k) z) hd (rel.drop k) dd')
theorem d_pop {v : V} {more : List Value} {Q : Value → Shared → Prop} (I : Inv X pins σ H s) (e : H a = some (.dK kvs)) (ry : RelV (kV k) u) (l : valV kvs k = some v) (hm : more = [] ∨ ∃ x, more = [x])
    (h : ∀ w' s', Inv X pins σ (upd H a (.dK (dropK kvs k))) s' → RelV v w' → Q w' s') : wpAny (model X.prog X.w) A (call (.builtin "dict.pop") (.ref a :: u :: more)) Q E s := by
  obtain ⟨z, hd, vs, rel, dd⟩ := dk_of I.hok e
  obtain ⟨w', hw, rw'⟩ := RelO.some_of (v := v) (o := valueAt vs k) (by rw [← l]; exact rel.val k)
  have hp : (keyPart u).isSome = true := by
    cases k with
    | inl i => obtain ⟨t, q⟩ := (show ∃ t, u = Value.int i t from ry); subst q; rfl
    | inr x => obtain ⟨t, q⟩ := (show ∃ t, u = Value.str x t from ry); subst q; rfl
  have ha : argsOk "dict.pop" ⟨.ref a :: u :: more, []⟩ := by
    rcases hm with q | ⟨x, q⟩
    · subst q; exact PySem.F.args_dict_pop_2 _ _
    · subst q; exact PySem.F.args_dict_pop_3 _ _ _
  refine call_meetsIn PySem.F.slot_dict_pop dd.typeIs PySem.F.entry_dict_pop ha (meets_dict_pop_there (mixKind X.prog X.w) a (kV_is ry) more hm hp)
    ⟨vs, w', dd, by rw [← rel.length]; exact z, hw, fun h' dd' hs => h w' _ ?_ rw'⟩
  have he : ∃ q, h'.get? a = some q := let ⟨q, _, _, hq, _⟩ := dd'; ⟨q, hq⟩
  exact d_write I (by rw [e]; exact True.intro) hs he (dk_new (Nat.le_trans (dropK_le kvs k) z) hd (rel.drop k) dd')
theorem d_popD {r : Value} {Q : Value → Shared → Prop} (I : Inv X pins σ H s) (e : H a = some (.dK kvs)) (ry : RelV (kV k) u) (l : valV kvs k = none) (h : ∀ s', Inv X pins σ H s' → Q r s') :
    wpAny (model X.prog X.w) A (call (.builtin "dict.pop") [.ref a, u, r]) Q E s := by
  obtain ⟨z, hd, vs, rel, dd⟩ := dk_of I.hok e
  have hn : valueAt vs k = none := RelO.none_of (by rw [← l]; exact rel.val k)
  have hp : (keyPart u).isSome = true := by
    cases k with
    | inl i => obtain ⟨t, q⟩ := (show ∃ t, u = Value.int i t from ry); subst q; rfl
    | inr x => obtain ⟨t, q⟩ := (show ∃ t, u = Value.str x t from ry); subst q; rfl
  exact call_meetsIn PySem.F.slot_dict_pop dd.typeIs PySem.F.entry_dict_pop (PySem.F.args_dict_pop_3 _ _ _) (meets_dict_pop_default (mixKind X.prog X.w) a (kV_is ry) hd hp r) ⟨vs, dd, hn, h _ (I.tok _)⟩
theorem d_clear {Q : Value → Shared → Prop} (I : Inv X pins σ H s) (e : H a = some (.dK kvs)) (h : ∀ s', Inv X pins σ (upd H a (.dK [])) s' → Q .none s') : wpAny (model X.prog X.w) A (call (.builtin "dict.clear") [.ref a]) Q E s := by
  obtain ⟨z, hd, vs, rel, dd⟩ := dk_of I.hok e
  refine call_meetsIn PySem.F.slot_dict_clear dd.typeIs PySem.F.entry_dict_clear (PySem.F.args_dict_clear_1 _) (meets_dict_clear (mixKind X.prog X.w) a) ⟨vs, dd, by rw [← rel.length]; exact z, fun h' dd' hs => h _ ?_⟩
  have he : ∃ q, h'.get? a = some q := let ⟨q, _, _, hq, _⟩ := dd'; ⟨q, hq⟩
  exact d_write (t' := s.toks) I (by rw [e]; exact True.intro) hs he (dk_new (Nat.zero_le _) hd .nil dd')
theorem d_len {Q : Value → Shared → Prop} (I : Inv X pins σ H s) (e : Rd H a (.dK kvs)) (h : ∀ t s', Inv X pins σ H s' → Q (.int kvs.length t) s') : wpAny (model X.prog X.w) A (call (.builtin "len") [.ref a]) Q E s := by
  obtain ⟨z, hd, vs, rel, dd⟩ := dk_rd I.hok e
  refine call_len_dict hd dd (by rw [← rel.length]; rw [sizeLine_eq] at z; omega) ?_
  rw [← rel.length]
  exact h _ _ (I.tok _)
theorem d_truth {Q : Bool → Shared → Prop} (I : Inv X pins σ H s) (e : Rd H a (.dK kvs)) (h : ∀ s', Inv X pins σ H s' → Q (!kvs.isEmpty) s') : wpAny (model X.prog X.w) A (truthy (.ref a)) Q E s := by
  obtain ⟨z, hd, vs, rel, dd⟩ := dk_rd I.hok e
  refine wpAny_truthy_dict hd dd (by rw [← rel.length]; rw [sizeLine_eq] at z; omega) ?_
  have q : kvs.isEmpty = vs.isEmpty := by cases rel <;> rfl
  rw [← q]
  exact h _ (I.tok _)
end
def NoSl (i : Expr) : Prop := ∀ ov iv, subscripted i false ov iv = operate [ov, iv] (getItem ov iv)
theorem subD_of {prog : Program} {w : World} {A : Around} {E : Value → Shared → Prop} {s : Shared} {env : Env} {value slice : Expr} {pos : Pos} {T id : String} {Q : Value → Shared → Prop}
    (hl : typeLookup (.type T) "__getitem__" = pure (some (.builtin id))) (hs : NoSl slice)
    (h : wpAny (model prog w) A (eval value env) (fun o s₁ => wpAny (model prog w) A (eval slice env) (fun i s₂ => s₂.TypeIs o T ∧ wpAny (model prog w) A (getItem o i) Q E s₂) E s₁) E s) :
    wpAny (model prog w) A (eval (.Subscript value slice pos) env) Q E s := by
  refine Subscript_ (wpAny_mono h (fun o s₁ h₁ => wpAny_mono h₁ (fun i s₂ h₂ => ?_) fun _ _ x => x) fun _ _ x => x)
  obtain ⟨hT, h₂⟩ := h₂
  unfold subscriptTail
  refine wpAny_bind ?_
  rw [getitemInPython_of_ne hT.not_modules]
  refine wpAny_bind (wpAny_specialOf hT hl ?_)
  have fin : wpAny (model prog w) A (subscripted slice false o i) (fun r s₃ => wpAny (model prog w) A (letTemporaryGo value o r >>= fun _ => pure r) Q E s₃) E s₂ := by
    rw [hs o i]
    exact wpAny_operating (wpAny_mono h₂ (fun r s₃ h₃ => wpAny_bind (wpAny_letTemporaryGo (wpAny_pure h₃))) fun _ _ x => x)
  first
    | exact wpAny_pure (wpAny_bind fin)
    | exact wpAny_bind (wpAny_pure (wpAny_bind fin))
    | exact wpAny_bind fin
theorem dict_typeIs {X : Cx} {pins : List (Addr × Obj)} {σ : St} {H : Hp} {s : Shared} {a : Addr} {y : V} {o : Option V} (I : Inv X pins σ H s) (g : DGet H a y o) : s.TypeIs (.ref a) "dict" := by
  rcases g with ⟨kvs, k, e, _, _⟩ | ⟨kvs, k, b, e, _, _, _⟩
  · obtain ⟨_, _, vs, _, dd⟩ := dk_rd I.hok e
    exact dd.typeIs
  · obtain ⟨_, _, xs, _, dd⟩ := dt_rd I.hok e
    exact dd.typeIs
theorem dict_noDict {X : Cx} {pins : List (Addr × Obj)} {σ : St} {H : Hp} {s : Shared} {a : Addr} {y : V} {o : Option V} (I : Inv X pins σ H s) (g : DGet H a y o) :
    ∀ b, Value.ref a = .ref b → ∃ ob, s.heap.get? b = some ob ∧ ob.dict = none := fun b q => by
  cases q
  rcases g with ⟨kvs, k, e, _, _⟩ | ⟨kvs, k, b, e, _, _, _⟩
  · obtain ⟨_, _, vs, _, ob, _, _, h1, h2, _⟩ := dk_rd I.hok e
    exact ⟨ob, h1, h2.2.1⟩
  · obtain ⟨_, _, xs, _, ob, _, _, h1, h2, _⟩ := dt_rd I.hok e
    exact ⟨ob, h1, h2.2.1⟩
def tDGet (td ty : TE) : TE := fun σ H Q => td σ H fun x H1 => ty σ H1 fun y H2 => ∃ a v, x = .ref a ∧ DGet H2 a y (some v) ∧ Q v H2
def tDIn (ty td : TE) : TE := fun σ H Q => ty σ H fun y H1 => td σ H1 fun x H2 => ∃ a o, x = .ref a ∧ DGet H2 a y o ∧ Q (.bl o.isSome) H2
def tDNotIn (ty td : TE) : TE := fun σ H Q => ty σ H fun y H1 => td σ H1 fun x H2 => ∃ a o, x = .ref a ∧ DGet H2 a y o ∧ Q (.bl (!o.isSome)) H2
def sDPut (td ty tv : TE) : TS := fun D σ H => tv σ H fun v H1 => td σ H1 fun x H2 => ty σ H2 fun y H3 => ∃ a H4, x = .ref a ∧ DPut H3 a y v H4 ∧ D.nx σ H4
def sDAug (td ty tv : TE) (rd : V → V → Hp → VK → Prop) : TS := fun D σ H => td σ H fun x H1 => ty σ H1 fun y H2 => ∃ a v, x = .ref a ∧ DGet H2 a y (some v) ∧
  tv σ H2 fun y2 H3 => rd v y2 H3 fun z H4 => ∃ H5, DPut H4 a y z H5 ∧ D.nx σ H5
def sDDel (td ty : TE) : TS := fun D σ H => td σ H fun x H1 => ty σ H1 fun y H2 => ∃ a kvs k, x = .ref a ∧ H2 a = some (.dK kvs) ∧ y = kV k ∧ (valV kvs k).isSome = true ∧ D.nx σ (upd H2 a (.dK (dropK kvs k)))
section
variable {X : Cx} {o i e value : Expr} {pos pos' tpos : Pos} {td ty tv : TE}
theorem pe_dget (hu : X.A.units + 1 < cLine) (ho : PE X o td) (hi : PE X i ty) (hs : NoSl i) : PE X (.Subscript o i pos) (tDGet td ty) := by
  intro pins s σ H Q I h
  refine subD_of PySem.F.slot_dict_getitem.lookup hs (thn (ho pins s σ H _ I h) fun u s1 ⟨x, H1, I1, rx, q1⟩ => thn (hi pins s1 σ H1 _ I1 q1) fun iv s2 ⟨y, H2, I2, ry, a, v, ex, g, q2⟩ => ?_)
  subst ex
  obtain rfl : u = Value.ref a := rx
  exact ⟨dict_typeIs I2 g, d_getItem hu I2 g ry fun w' s3 I3 rw' => ⟨v, H2, I3, rw', q2⟩⟩
theorem pc_din (hu : X.A.units + 1 < cLine) (hi : PE X i ty) (ho : PE X o td) : PC X .In i o (tDIn ty td) := by
  intro pins s σ H Q I h
  refine thn (hi pins s σ H _ I h) fun iv s1 ⟨y, H1, I1, ry, q1⟩ => thn (ho pins s1 σ H1 _ I1 q1) fun u s2 ⟨x, H2, I2, rx, a, ov, ex, g, q2⟩ => ?_
  subst ex
  obtain rfl : u = Value.ref a := rx
  exact d_in hu I2 g ry fun s3 I3 => ⟨.bl ov.isSome, H2, I3, rfl, q2⟩
theorem pc_dnotin (hu : X.A.units + 1 < cLine) (hi : PE X i ty) (ho : PE X o td) : PC X .NotIn i o (tDNotIn ty td) := by
  intro pins s σ H Q I h
  refine thn (hi pins s σ H _ I h) fun iv s1 ⟨y, H1, I1, ry, q1⟩ => thn (ho pins s1 σ H1 _ I1 q1) fun u s2 ⟨x, H2, I2, rx, a, ov, ex, g, q2⟩ => ?_
  subst ex
  obtain rfl : u = Value.ref a := rx
  exact d_notIn hu I2 g ry fun s3 I3 => ⟨.bl (!ov.isSome), H2, I3, rfl, q2⟩
theorem ps_dput (hu : X.A.units + 1 < cLine) (ho : PE X o td) (hi : PE X i ty) (hv : PE X value tv) (hs : swapsWith value (some (.Subscript o i pos')) pos.line X.env = pure false) :
    PS X (.Assign [.Subscript o i pos'] value pos) (sDPut td ty tv) := by
  intro pins s σ H D I h
  refine wpAny_Assign_Subscript (thn (hv pins s σ H _ I h) fun r s1 ⟨v, H1, I1, rv, q1⟩ => thn (ho pins s1 σ H1 _ I1 q1) fun u s2 ⟨x, H2, I2, rx, q2⟩ => thn (hi pins s2 σ H2 _ I2 q2) fun iv s3 ⟨y, H3, I3, ry, a, H4, ex, g, q3⟩ => ?_) hs
  subst ex
  obtain rfl : u = Value.ref a := rx
  exact d_setItem hu I3 g ry rv fun s4 I4 => ⟨σ, H4, I4, q3⟩
theorem ps_daug {op : Operator} {rd : V → V → Hp → VK → Prop} (hu : X.A.units + 1 < cLine) (ho : PE X o td) (hi : PE X i ty) (hv : PE X value tv) (hop : InOp X op rd)
    (ha : ∀ ov iv new, augStore i ov iv new = (do holding [new, ov, iv] (setItem ov iv new); release [new, ov, iv] []; pure .next)) : PS X (.AugAssign (.Subscript o i tpos) op value pos) (sDAug td ty tv rd) := by
  intro pins s σ H D I h
  refine wpAny_AugAssign_SubscriptAny (thn (ho pins s σ H _ I h) fun u s1 ⟨x, H1, I1, rx, q1⟩ => thn (hi pins s1 σ H1 _ I1 q1) fun iv s2 ⟨y, H2, I2, ry, a, v, ex, g, q2⟩ => ?_) ha
  subst ex
  obtain rfl : u = Value.ref a := rx
  refine d_getItem hu I2 g ry fun w' s3 I3 rw' => thn (hv pins s3 σ H2 _ I3 q2) fun w2 s4 ⟨y2, H3, I4, ry2, q3⟩ => thn (hop pins s4 σ H3 v y2 w' w2 _ I4 rw' ry2 q3) fun w3 s5 ⟨z, H4, I5, rz, H5, g5, q4⟩ => ?_
  exact d_setItem hu I5 g5 ry rz fun s6 I6 => ⟨σ, H5, I6, q4⟩
theorem ps_ddel (ho : PE X o td) (hi : PE X i ty) : PS X (.Delete [.Subscript o i tpos] pos) (sDDel td ty) := by
  intro pins s σ H D I h
  refine wpAny_Delete (wpAny_deleteEach_cons (wpAny_delete_Subscript (thn (ho pins s σ H _ I h) fun u s1 ⟨x, H1, I1, rx, q1⟩ => thn (hi pins s1 σ H1 _ I1 q1) fun iv s2 ⟨y, H2, I2, ry, a, kvs, k, ex, e, ey, l, q2⟩ => ?_)))
  subst ex ey
  obtain rfl : u = Value.ref a := rx
  exact d_delItem I2 e ry l fun s3 I3 => wpAny_deleteEach_nil ⟨σ, _, I3, q2⟩
end
theorem dk_empty {P : Program} {w : World} {H : Hp} (h : Heap) (hb : sysModules < h.objs.size) : ObjOk P w H (h.push { cls := .type "dict", data := .dict #[] }) h.objs.size (.dK []) :=
  ⟨Nat.zero_le _, beq_eq_false_iff_ne.mpr (Ne.symm (Nat.ne_of_lt hb)), [], .nil, Heap.DictOf.new h⟩
theorem dt_empty {P : Program} {w : World} {H : Hp} (h : Heap) (hb : sysModules < h.objs.size) : ObjOk P w H (h.push { cls := .type "dict", data := .dict #[] }) h.objs.size (.dT []) :=
  ⟨Nat.zero_le _, beq_eq_false_iff_ne.mpr (Ne.symm (Nat.ne_of_lt hb)), [], .nil, _, #[], 0, Heap.get?_push_size _ rfl, ⟨rfl, rfl, rfl⟩, rfl, rfl, List.nodup_nil⟩
def tDNewK : TE := fun _ H Q => ∀ p, H p = none → Q (.ref p) (upd H p (.dK []))
def tDNewT : TE := fun _ H Q => ∀ p, H p = none → Q (.ref p) (upd H p (.dT []))
section
variable {X : Cx} {pos : Pos}
theorem pe_dnewK : PE X (.Dict [] [] pos) tDNewK := fun pins s σ H Q I h =>
  wpAny_Dict_empty ⟨.ref s.heap.objs.size, _, I.laid (a := s.heap.objs.size) (o := .dK []) (t' := s.toks) (fun _ _ q => Heap.get?_push_of_some _ q) (Nat.le_refl _) (dk_empty s.heap I.big), rfl, h _ (I.hok.fresh (Nat.le_refl _))⟩
theorem pe_dnewT : PE X (.Dict [] [] pos) tDNewT := fun pins s σ H Q I h =>
  wpAny_Dict_empty ⟨.ref s.heap.objs.size, _, I.laid (a := s.heap.objs.size) (o := .dT []) (t' := s.toks) (fun _ _ q => Heap.get?_push_of_some _ q) (Nat.le_refl _) (dt_empty s.heap I.big), rfl, h _ (I.hok.fresh (Nat.le_refl _))⟩
end
def tPairs : List (TE × TE) → St → Hp → (List (V × V) → Hp → Prop) → Prop
  | [], _, H, Q => Q [] H
  | (tk, tv) :: r, σ, H, Q => tk σ H fun x H1 => tv σ H1 fun y H2 => tPairs r σ H2 fun ps H3 => Q ((x, y) :: ps) H3
abbrev VV : List (V × V) → List (Value × Value) → Prop := Paired fun p q => RelV p.1 q.1 ∧ RelV p.2 q.2
def PPs (X : Cx) (pos : Pos) (keys : List (Option Expr)) (values : List Expr) (trs : List (TE × TE)) : Prop :=
  ∀ (pins : List (Addr × Obj)) (s : Shared) (σ : St) (H : Hp) (Q : List (V × V) → Hp → Prop), Inv X pins σ H s → tPairs trs σ H Q →
    wpAny (model X.prog X.w) X.A (evalPairs (pairTrees keys values X.env pos)) (fun vs s' => ∃ ps H', Inv X pins σ H' s' ∧ VV ps vs ∧ Q ps H') X.xe s
theorem pps_nil {X : Cx} {pos : Pos} : PPs X pos [] [] [] := fun pins s σ H Q I h => pairTrees_nil_walk ⟨[], H, I, .nil, h⟩
theorem pps_cons {X : Cx} {pos : Pos} {k v : Expr} {ks : List (Option Expr)} {vs : List Expr} {tk tv : TE} {trs : List (TE × TE)} (hk : PE X k tk) (hv : PE X v tv) (hr : PPs X pos ks vs trs) :
    PPs X pos (some k :: ks) (v :: vs) ((tk, tv) :: trs) := fun pins s σ H Q I h =>
  pairTrees_cons_walk (thn (hk pins s σ H _ I h) fun u s1 ⟨x, H1, I1, rx, q1⟩ => thn (hv pins s1 σ H1 _ I1 q1) fun w2 s2 ⟨y, H2, I2, ry, q2⟩ =>
    thn (hr pins s2 σ H2 _ I2 q2) fun ws s3 ⟨ps, H3, I3, rel, q3⟩ => ⟨(x, y) :: ps, H3, I3, .cons ⟨rx, ry⟩ rel, q3⟩)
def mergeK (kvs more : List (Key × V)) : List (Key × V) := more.foldl (fun acc kv => putK acc kv.1 kv.2) kvs
theorem KV.merge : ∀ {more : List (Key × V)} {rs : List (Key × Value)} {kvs : List (Key × V)} {vs : List (Key × Value)}, KV more rs → KV kvs vs → KV (mergeK kvs more) (merged vs rs) := by
  intro more rs kvs vs r
  unfold KV at r
  induction r generalizing kvs vs with
  | nil => intro q; exact q
  | @cons p q ps qs h t ih =>
    intro r0
    have e : KV (putK kvs p.1 p.2) (stored vs q.1 q.2) := by
      have := r0.put p.1 h.2
      rw [← h.1]; exact this
    exact ih e
theorem length_mergeK : ∀ (more kvs : List (Key × V)), (mergeK kvs more).length ≤ kvs.length + more.length
  | [], kvs => by show kvs.length ≤ kvs.length + 0; omega
  | p :: r, kvs => by
    have h1 := length_mergeK r (putK kvs p.1 p.2)
    have h2 := length_putK kvs p.1 p.2
    show (mergeK (putK kvs p.1 p.2) r).length ≤ _
    rw [List.length_cons]; omega
theorem carries_of {P : Program} {w : World} : ∀ {kvs : List (Key × V)} {ws : List (Value × Value)}, VV (kvs.map fun kv => (kV kv.1, kv.2)) ws → ∃ rs, Carries (mixKind P w) ws rs ∧ KV kvs rs
  | [], _, r => by rw [List.map_nil] at r; cases r; exact ⟨[], True.intro, .nil⟩
  | p :: kvs, _, r => by
    rw [List.map_cons] at r
    cases r with
    | @cons a b as bs h t =>
      obtain ⟨rs, c, q⟩ := carries_of (P := P) (w := w) t
      obtain ⟨b1, b2⟩ := b
      exact ⟨(p.1, b2) :: rs, ⟨kV_is h.1, rfl, c⟩, .cons ⟨rfl, h.2⟩ q⟩
def tDisp (trs : List (TE × TE)) : TE := fun σ H Q => ∀ p, H p = none → tPairs trs σ (upd H p (.dK [])) fun ps H2 => H2 p = some (.dK []) ∧ ∃ kvs : List (Key × V), ps = kvs.map (fun kv => (kV kv.1, kv.2)) ∧ kvs.length ≤ 15 ∧ Q (.ref p) (upd H2 p (.dK (mergeK [] kvs)))
theorem pe_disp {X : Cx} {pos : Pos} {keys : List (Option Expr)} {values : List Expr} {trs : List (TE × TE)} (h : PPs X pos keys values trs) (hall : keys.all (·.isSome) = true) (hl : keys.length = values.length) (h0 : keys ≠ [])
    (h15 : keys.length ≤ 15) : PE X (.Dict keys values pos) (tDisp trs) := by
  intro pins s σ H Q I q
  have hn := I.hok.fresh (Nat.le_refl s.heap.objs.size)
  have I1 := I.laid (a := s.heap.objs.size) (o := .dK []) (h' := s.heap.push { cls := .type "dict", data := .dict #[] }) (t' := s.toks) (fun _ _ q => Heap.get?_push_of_some _ q) (Nat.le_refl _) (dk_empty s.heap I.big)
  refine wpAny_Dict_walk (knd := mixKind X.prog X.w) hall hl h0 h15 (thn (h pins _ σ _ _ I1 (q _ hn)) fun ws s2 ⟨ps, H2, I2, rel, e, kvs, ep, lk, q2⟩ => ?_)
  subst ep
  obtain ⟨rs, c, rk⟩ := carries_of (P := X.prog) (w := X.w) rel
  obtain ⟨z, hd, vs0, r0, dd⟩ := dk_of I2.hok e
  cases r0
  refine ⟨rs, c, dd, fun h' dd' hs => ⟨.ref s.heap.objs.size, _, ?_, rfl, q2⟩⟩
  have hz : (mergeK [] kvs).length ≤ sizeLine := by
    have h1 := length_mergeK kvs []
    rw [List.length_nil] at h1
    rw [sizeLine_eq]; omega
  have he : ∃ q, h'.get? s.heap.objs.size = some q := let ⟨q, _, _, hq, _⟩ := dd'; ⟨q, hq⟩
  exact d_write I2 (by rw [e]; exact True.intro) hs he (dk_new hz hd (rk.merge .nil) dd')
structure M1 (X : Cx) (o : Expr) (m : Str) (apos : Pos) (e : Expr) (cpos : Pos) : Prop where
  base : attributeBase o m X.env (eval o X.env) = eval o X.env
  few : ((backTo cpos (starEach [e] X.env)).all (fun x => !x.1) && (backToKw cpos (keywordEach [] X.env)).all (fun x => x.1.isSome)
    && decide (([e] : List Expr).length + ([] : List Keyword).length + (if ([] : List Keyword).isEmpty then 0 else 1) < 30)) = true
  line : (apos.endLine == cpos.line) = true
  trees : backTo cpos (starEach [e] X.env) = [(false, eval e X.env)]
structure M2 (X : Cx) (o : Expr) (m : Str) (apos : Pos) (e f : Expr) (cpos : Pos) : Prop where
  base : attributeBase o m X.env (eval o X.env) = eval o X.env
  few : ((backTo cpos (starEach [e, f] X.env)).all (fun x => !x.1) && (backToKw cpos (keywordEach [] X.env)).all (fun x => x.1.isSome)
    && decide (([e, f] : List Expr).length + ([] : List Keyword).length + (if ([] : List Keyword).isEmpty then 0 else 1) < 30)) = true
  line : (apos.endLine == cpos.line) = true
  trees : backTo cpos (starEach [e, f] X.env) = [(false, eval e X.env), (false, eval f X.env)]
def IsD (H : Hp) (a : Addr) : Prop := (∃ kvs, Rd H a (.dK kvs)) ∨ ∃ kvs, Rd H a (.dT kvs)
theorem isD_at {X : Cx} {pins : List (Addr × Obj)} {σ : St} {H : Hp} {s : Shared} {a : Addr} (I : Inv X pins σ H s) (d : IsD H a) :
    s.TypeIs (.ref a) "dict" ∧ (∀ b, Value.ref a = .ref b → ∃ ob, s.heap.get? b = some ob ∧ ob.dict = none) ∧ (a == sysModules) = false := by
  rcases d with ⟨kvs, e⟩ | ⟨kvs, e⟩
  · obtain ⟨_, hd, vs, _, dd⟩ := dk_rd I.hok e
    refine ⟨dd.typeIs, fun b q => ?_, hd⟩
    cases q
    obtain ⟨ob, _, _, h1, h2, _⟩ := dd
    exact ⟨ob, h1, h2.2.1⟩
  · obtain ⟨_, hd, xs, _, dd⟩ := dt_rd I.hok e
    refine ⟨dd.typeIs, fun b q => ?_, hd⟩
    cases q
    obtain ⟨ob, _, _, h1, h2, _⟩ := dd
    exact ⟨ob, h1, h2.2.1⟩
section
variable {X : Cx} {pins : List (Addr × Obj)} {σ : St} {H : Hp} {s : Shared} {a : Addr} {y d : V} {u r : Value} {o : Option V} {A : Around} {E : Value → Shared → Prop}
theorem d_get1 {Q : Value → Shared → Prop} (hu : A.units + 1 < cLine) (I : Inv X pins σ H s) (g : DGet H a y o) (ry : RelV y u) (h : ∀ w' s', Inv X pins σ H s' → RelV (o.getD .non) w' → Q w' s') :
    wpAny (model X.prog X.w) A (call (.builtin "dict.get") [.ref a, u]) Q E s := by
  rcases g with ⟨kvs, k, e, ey, l⟩ | ⟨kvs, k, b, e, ey, eb, l⟩
  · subst ey
    obtain ⟨z, hd, vs, rel, dd⟩ := dk_rd I.hok e
    refine call_meetsIn PySem.F.slot_dict_get dd.typeIs PySem.F.entry_dict_get (PySem.F.args_dict_get_2 _ _) (meets_dict_get (mixKind X.prog X.w) a (kV_is ry) hd) ⟨_, dd.mapOf, h _ _ (I.tok _) ?_⟩
    rw [l]
    exact (rel.val k).getD rfl
  · subst ey
    cases (show u = Value.ref b from ry)
    obtain ⟨z, hd, xs, rel, dd⟩ := dt_rd I.hok e
    refine call_meetsIn PySem.F.slot_dict_get dd.typeIs PySem.F.entry_dict_get (PySem.F.args_dict_get_2 _ _) (meetsH_dict_get (tupleKind (mixKind X.prog X.w)) a b hd) ⟨tupleKind_room_in1 hu, k, xs, key_of I.hok eb, dd, h _ _ (I.tok _) ?_⟩
    rw [l]
    exact (rel.val k).getD rfl
theorem d_get2 {Q : Value → Shared → Prop} (hu : A.units + 1 < cLine) (I : Inv X pins σ H s) (g : DGet H a y o) (ry : RelV y u) (rd : RelV d r) (h : ∀ w' s', Inv X pins σ H s' → RelV (o.getD d) w' → Q w' s') :
    wpAny (model X.prog X.w) A (call (.builtin "dict.get") [.ref a, u, r]) Q E s := by
  rcases g with ⟨kvs, k, e, ey, l⟩ | ⟨kvs, k, b, e, ey, eb, l⟩
  · subst ey
    obtain ⟨z, hd, vs, rel, dd⟩ := dk_rd I.hok e
    refine call_meetsIn PySem.F.slot_dict_get dd.typeIs PySem.F.entry_dict_get (PySem.F.args_dict_get_3 _ _ _) (meets_dict_get_default (mixKind X.prog X.w) a (kV_is ry) hd r) ⟨_, dd.mapOf, h _ _ (I.tok _) ?_⟩
    rw [l]
    exact (rel.val k).getD rd
  · subst ey
    cases (show u = Value.ref b from ry)
    obtain ⟨z, hd, xs, rel, dd⟩ := dt_rd I.hok e
    refine call_meetsIn PySem.F.slot_dict_get dd.typeIs PySem.F.entry_dict_get (PySem.F.args_dict_get_3 _ _ _) (meetsH_dict_get_default (tupleKind (mixKind X.prog X.w)) a b hd r) ⟨tupleKind_room_in1 hu, k, xs, key_of I.hok eb, dd, h _ _ (I.tok _) ?_⟩
    rw [l]
    exact (rel.val k).getD rd
end
def tDGet1 (td ty : TE) : TE := fun σ H Q => td σ H fun x H1 => ∃ a, x = .ref a ∧ IsD H1 a ∧ ty σ H1 fun y H2 => ∃ o, DGet H2 a y o ∧ Q (o.getD .non) H2
def tDGet2 (td ty tx : TE) : TE := fun σ H Q => td σ H fun x H1 => ∃ a, x = .ref a ∧ IsD H1 a ∧ ty σ H1 fun y H2 => tx σ H2 fun z H3 => ∃ o, DGet H3 a y o ∧ Q (o.getD z) H3
def tDPop1 (td ty : TE) : TE := fun σ H Q => td σ H fun x H1 => ∃ a, x = .ref a ∧ IsD H1 a ∧ ty σ H1 fun y H2 => ∃ kvs k v, H2 a = some (.dK kvs) ∧ y = kV k ∧ valV kvs k = some v ∧ Q v (upd H2 a (.dK (dropK kvs k)))
def tDPop2 (td ty tx : TE) : TE := fun σ H Q => td σ H fun x H1 => ∃ a, x = .ref a ∧ IsD H1 a ∧ ty σ H1 fun y H2 => tx σ H2 fun z H3 => ∃ kvs k, H3 a = some (.dK kvs) ∧ y = kV k ∧
  (∀ v, valV kvs k = some v → Q v (upd H3 a (.dK (dropK kvs k)))) ∧ (valV kvs k = none → Q z H3)
section
variable {X : Cx} {o e f : Expr} {apos cpos : Pos} {td ty tx : TE}
theorem pe_dget1 (hu : X.A.units + 1 < cLine) (ho : PE X o td) (he : PE X e ty) (m : M1 X o "get" apos e cpos) : PE X (.Call (.Attribute o "get" apos) [e] [] cpos) (tDGet1 td ty) := by
  intro pins s σ H Q I h
  refine wpAny_Call_method m.base m.few m.line PySem.F.plainAttrs_dict PySem.F.slot_dict_get PySem.F.type_dict_get (thn (ho pins s σ H _ I h) fun u s1 ⟨x, H1, I1, rx, a, ex, d, q1⟩ => ?_)
  subst ex
  obtain rfl : u = Value.ref a := rx
  obtain ⟨t1, t2, _⟩ := isD_at I1 d
  refine ⟨t1, t2, ?_⟩
  rw [m.trees]
  refine Calls.callWith_builtin rfl (Calls.evalArgs_plain (Calls.spliced_cons (thn (he pins s1 σ H1 _ I1 q1) fun iv s2 ⟨y, H2, I2, ry, ov, g, q2⟩ => Calls.spliced_nil ?_)))
  exact d_get1 hu I2 g ry fun w' s3 I3 rw' => ⟨_, H2, I3, rw', q2⟩
theorem pe_dget2 (hu : X.A.units + 1 < cLine) (ho : PE X o td) (he : PE X e ty) (hf : PE X f tx) (m : M2 X o "get" apos e f cpos) : PE X (.Call (.Attribute o "get" apos) [e, f] [] cpos) (tDGet2 td ty tx) := by
  intro pins s σ H Q I h
  refine wpAny_Call_method m.base m.few m.line PySem.F.plainAttrs_dict PySem.F.slot_dict_get PySem.F.type_dict_get (thn (ho pins s σ H _ I h) fun u s1 ⟨x, H1, I1, rx, a, ex, d, q1⟩ => ?_)
  subst ex
  obtain rfl : u = Value.ref a := rx
  obtain ⟨t1, t2, _⟩ := isD_at I1 d
  refine ⟨t1, t2, ?_⟩
  rw [m.trees]
  refine Calls.callWith_builtin rfl (Calls.evalArgs_plain (Calls.spliced_cons (thn (he pins s1 σ H1 _ I1 q1) fun iv s2 ⟨y, H2, I2, ry, q2⟩ =>
    Calls.spliced_cons (thn (hf pins s2 σ H2 _ I2 q2) fun fv s3 ⟨z, H3, I3, rz, ov, g, q3⟩ => Calls.spliced_nil ?_))))
  exact d_get2 hu I3 g ry rz fun w' s4 I4 rw' => ⟨_, H3, I4, rw', q3⟩
theorem pe_dpop1 (ho : PE X o td) (he : PE X e ty) (m : M1 X o "pop" apos e cpos) : PE X (.Call (.Attribute o "pop" apos) [e] [] cpos) (tDPop1 td ty) := by
  intro pins s σ H Q I h
  refine wpAny_Call_method m.base m.few m.line PySem.F.plainAttrs_dict PySem.F.slot_dict_pop PySem.F.type_dict_pop (thn (ho pins s σ H _ I h) fun u s1 ⟨x, H1, I1, rx, a, ex, d, q1⟩ => ?_)
  subst ex
  obtain rfl : u = Value.ref a := rx
  obtain ⟨t1, t2, _⟩ := isD_at I1 d
  refine ⟨t1, t2, ?_⟩
  rw [m.trees]
  refine Calls.callWith_builtin rfl (Calls.evalArgs_plain (Calls.spliced_cons (thn (he pins s1 σ H1 _ I1 q1) fun iv s2 ⟨y, H2, I2, ry, kvs, k, v, ea, ey, l, q2⟩ => Calls.spliced_nil ?_)))
  subst ey
  exact d_pop I2 ea ry l (.inl rfl) fun w' s3 I3 rw' => ⟨v, _, I3, rw', q2⟩
theorem pe_dpop2 (ho : PE X o td) (he : PE X e ty) (hf : PE X f tx) (m : M2 X o "pop" apos e f cpos) : PE X (.Call (.Attribute o "pop" apos) [e, f] [] cpos) (tDPop2 td ty tx) := by
  intro pins s σ H Q I h
  refine wpAny_Call_method m.base m.few m.line PySem.F.plainAttrs_dict PySem.F.slot_dict_pop PySem.F.type_dict_pop (thn (ho pins s σ H _ I h) fun u s1 ⟨x, H1, I1, rx, a, ex, d, q1⟩ => ?_)
  subst ex
  obtain rfl : u = Value.ref a := rx
  obtain ⟨t1, t2, _⟩ := isD_at I1 d
  refine ⟨t1, t2, ?_⟩
  rw [m.trees]
  refine Calls.callWith_builtin rfl (Calls.evalArgs_plain (Calls.spliced_cons (thn (he pins s1 σ H1 _ I1 q1) fun iv s2 ⟨y, H2, I2, ry, q2⟩ =>
    Calls.spliced_cons (thn (hf pins s2 σ H2 _ I2 q2) fun fv s3 ⟨z, H3, I3, rz, kvs, k, ea, ey, q3, q4⟩ => Calls.spliced_nil ?_))))
  subst ey
  cases l : valV kvs k with
  | some v => exact d_pop I3 ea ry l (.inr ⟨fv, rfl⟩) fun w' s4 I4 rw' => ⟨v, _, I4, rw', q3 v l⟩
  | none => exact d_popD I3 ea ry l fun s4 I4 => ⟨z, H3, I4, rz, q4 l⟩
end
section
variable {X : Cx} {pins : List (Addr × Obj)} {σ : St} {H : Hp} {s : Shared} {a : Addr} {kvs : List (Key × V)} {A : Around} {E : Value → Shared → Prop}
theorem d_copyOf {Q : Value → Shared → Prop} (I : Inv X pins σ H s) (e : Rd H a (.dK kvs)) (h : ∀ p s', H p = none → Inv X pins σ (upd H p (.dK kvs)) s' → Q (.ref p) s') : wpAny (model X.prog X.w) A (call (.type "dict") [.ref a]) Q E s := by
  obtain ⟨z, hd, vs, rel, dd⟩ := dk_rd I.hok e
  refine kt_call_dict hd dd (by rw [← rel.length]; exact z) fun h' dd' hs => ?_
  refine h _ _ (I.hok.fresh (Nat.le_refl _)) (I.laid (a := s.heap.objs.size) (o := .dK kvs) (t' := s.toks) (fun b q hq => ?_) (Nat.le_refl _) (dk_new z (beq_eq_false_iff_ne.mpr (Ne.symm (Nat.ne_of_lt I.big))) rel dd'))
  exact (hs.2 b (Nat.ne_of_lt (Heap.lt_size hq))).trans (Heap.get?_push_of_some _ hq)
end
section
variable {X : Cx} {pins : List (Addr × Obj)} {σ : St} {H : Hp} {s : Shared} {a : Addr} {y : V} {u : Value} {A : Around} {E : Value → Shared → Prop}
theorem d_missing {Q : Value → Shared → Prop} (hu : A.units + 1 < cLine) (hh : A.handled = none) (I : Inv X pins σ H s) (g : DGet H a y none) (ry : RelV y u)
    (h : ∀ h' e t', Heap.NewExc s.heap h' e "KeyError" → E (.ref e) { s with heap := h', toks := t' }) : wpAny (model X.prog X.w) A (getItem (.ref a) u) Q E s := by
  rcases g with ⟨kvs, k, e, ey, l⟩ | ⟨kvs, k, b, e, ey, eb, l⟩
  · subst ey
    obtain ⟨z, hd, vs, rel, dd⟩ := dk_rd I.hok e
    have hn : valueAt vs k = none := RelO.none_of (by rw [l]; exact rel.val k)
    exact wpAny_getItem_missing_of (kV_is ry) hd hh dd.mapOf hn fun h' ex ne => h h' ex _ ne
  · subst ey
    cases (show u = Value.ref b from ry)
    obtain ⟨z, hd, xs, rel, dd⟩ := dt_rd I.hok e
    have hn : (atKey xs k).map (·.2) = none := RelO.none_of (by rw [l]; exact rel.val k)
    exact wpAny_getItem_missing_heap (tupleKind_room_in1 hu) (key_of I.hok eb) hd hh dd (Option.map_eq_none_iff.mp hn) fun h' ex ne => h h' ex _ ne
end
end L2
namespace Att
open PySem PySem.W PySem.Calls PyProof.Rows
theorem ints_of_wellAll {P : Params} {h : Heap} : ∀ (ns : List Int) (vs : List Value), WellAll P h vs (ns.map WData.int) → IntsAre vs ns := by
  intro ns
  induction ns with
  | nil =>
    intro vs w
    rw [List.map_nil] at w
    cases w
    exact .nil
  | cons n ns ih =>
    intro vs w
    rw [List.map_cons] at w
    cases w with
    | cons a b =>
      cases a
      exact .cons _ _ (ih _ b)
theorem script_of {l : OpenLaw} {n : Nat} (hn : l.most = some n) {P : Params} {h : Heap} {args : List WData} {vals : List Value}
    (hpre : l.row.toRowW.claim.pre args = true) (hwl : WellAll P h vals args) :
    ∃ a vs ns, vals = [Value.ref a] ∧ args = [WData.list (ns.map WData.int)] ∧ h.get? a = some { cls := .type "list", data := .seq vs.toArray } ∧ IntsAre vs ns ∧ ns.length ≤ n := by
  have hsh : WShape.hasAll [] args [.list .int] = true := (pre_splitW hpre).1
  have hc : l.pre.holds [] { args := args } = true := (pre_splitW hpre).2
  obtain ⟨d, r, rfl, h1, h2⟩ := hasAllW_cons hsh
  obtain rfl := hasAllW_nil h2
  obtain ⟨xs, rfl, h3⟩ := hasW_list h1
  obtain ⟨ns, rfl⟩ := items_int h3
  have hlen : ns.length ≤ n := by
    unfold OpenLaw.pre at hc
    have h4 : (WTm.not (.lt (.lit (.int (n : Int))) (.len (.arg 0)))).holds [] { args := [.list (ns.map .int)] } = true := by
      have h4 := (holds_andW hc).1
      rw [hn] at h4
      exact h4
    have h5 := condW_of h4 (w_not (w_lt w_lit (w_len_list (w_arg rfl))))
    rw [List.length_map] at h5
    refine Nat.le_of_not_lt fun q => ?_
    have q' : (n : Int) < ((ns.length : Nat) : Int) := by omega
    first
      | (rw [decide_eq_true q'] at h5; exact absurd h5 (by decide))
      | (simp at h5; omega)
  cases hwl with
  | cons w1 w2 =>
    cases w2
    cases w1 with
    | list ho hall => exact ⟨_, _, ns, rfl, rfl, ho, ints_of_wellAll ns _ hall, hlen⟩
theorem post_true (l : OpenLaw) (args : List WData) : l.row.toRowW.claim.post args (.bool true) args = true :=
  postW_of (r := l.row.toRowW) (X := (true == true))
    (show WShape.has [] (.bool true) .bool = true by first | rfl | decide | simp [WShape.has, WShape.arms, WShape.armsAll])
    (show (WTm.eq .res (.lit (.bool true))).value [] { args := args, res := some (.bool true), after := args } = some (.bool (true == true)) from w_eq_bool (w_res rfl) w_lit) rfl
theorem attach {l : OpenLaw} {n : Nat} {q : Program} {loose : List Str} {XP : (Str → Option Value) → Heap → Prop} {YP : World → Heap → Prop} {d : DefRec} {x : Str}
    (hn : l.most = some n) (hdf : d.params.defaults = [])
    (hbind : ∀ pm cd doc v : Value, bindArgs (docDef d.name d.params d.body d.scope pm cd doc) ⟨[v], []⟩ = pure [(x, v)])
    (hx : d.scope.names.lookup x = some .local ∨ d.scope.names.lookup x = some .cell)
    (hk : d.scope.kind = .function) (hco : d.scope.isCoroutine = false) (hgen : d.scope.isGenerator = false)
    (body : ∀ (w : World) (s₀ s₁ s : Shared) (mg mb : Str → Option Value) (fa : Addr) (o : Obj) (pm cd doc : Value) (a : Addr) (vs : List Value) (ns : List Int),
      Ground q loose [] XP w s₀ mg mb s₁.heap → YP w s₁.heap →
      s₁.heap.get? fa = some o → o.data = .func (docDef d.name d.params d.body d.scope pm cd doc) → s₁.heap.CodeRec cd d.name → mg d.name = some (.ref fa) →
      s₁.heap.get? a = some { cls := .type "list", data := .seq vs.toArray } → IntsAre vs ns → ns.length ≤ n →
      s.gens = #[] → s.os = s₁.os →
      Fr s₁.heap s₁.heap.objs.size s.heap (bindL (envOfC d.name d.scope s₁.heap.objs.size fa cd).kindOf [(x, .ref a)] fun _ => none) →
      Cl s₁.heap.objs.size (cellsFrom (s₁.heap.objs.size + 1) d.scope.names []) s.heap (bindC (envOfC d.name d.scope s₁.heap.objs.size fa cd).kindOf [(x, .ref a)] fun _ => none) →
      wpAny (model l.prog w) (callerA.deeper (envOfC d.name d.scope s₁.heap.objs.size fa cd)) (execs d.body (envOfC d.name d.scope s₁.heap.objs.size fa cd))
        (fun f s' => f = .ret (.bool true) ∧ OldK s₁.heap s'.heap ∧ s'.os = s₁.os ∧ AllBare s'.gens) (fun _ _ => False) s) :
    WalkO q loose XP YP l.row.toRowW d [] (fun f vs => PySem.call f vs) := by
  intro w s₀ s₁ mg mb G Y fa o pm cd doc dV kV ho hd hcd hD hmg hg args vals as hpre hlay hrd hwl hlo
  obtain rfl : dV = .none := Dflts.none hD hdf
  obtain rfl : kV = .none := Dflts.noKw hD
  obtain ⟨a, vs, ns, rfl, rfl, hobj, hints, hlen⟩ := script_of hn hpre hwl
  refine enter_call ?_
  refine call_cells_ret (o := o) (by rw [depth_caller]; decide) ho (fd_plain hd) G.T.nolimit hcd (hbind pm cd doc (.ref a)) (fun y hy => ?_) (fun h₁ tk F X => ?_) hco hgen hk
  · obtain rfl : y = (x, Value.ref a) := List.mem_singleton.mp hy
    rcases hx with e | e
    · exact .inl e
    · exact .inr ⟨e, cellsFrom_some _ _ _ (.inl e)⟩
  · refine wpAny_mono (body w s₀ s₁ { s₁ with heap := h₁, toks := tk } mg mb fa o pm cd doc a vs ns G Y ho (fd_plain hd) hcd hmg hobj hints hlen hg rfl F X) (fun f s' hq => ?_) (fun _ _ hq => hq)
    obtain ⟨rfl, h2, h3, h4⟩ := hq
    exact ⟨.inl ⟨.bool true, .bool true, [], rfl, fun _ => rfl, .bool true, post_true l _, fun _ => ⟨List.Pairwise.nil, fun _ hm => (nomatch hm)⟩⟩, h2, h3, h4⟩
theorem attach_call {l : OpenLaw} {n : Nat} {q : Program} {loose : List Str} {XP : (Str → Option Value) → Heap → Prop} {YP : World → Heap → Prop} {d : DefRec}
    (hn : l.most = some n) (hdf : d.params.defaults = [])
    (call : ∀ (w : World) (s₀ s₁ : Shared) (mg mb : Str → Option Value) (fa : Addr) (o : Obj) (pm cd doc : Value) (a : Addr) (vs : List Value) (ns : List Int),
      Ground q loose [] XP w s₀ mg mb s₁.heap → YP w s₁.heap →
      s₁.heap.get? fa = some o → o.data = .func (docDef d.name d.params d.body d.scope pm cd doc) → s₁.heap.CodeRec cd d.name → mg d.name = some (.ref fa) →
      s₁.heap.get? a = some { cls := .type "list", data := .seq vs.toArray } → IntsAre vs ns → ns.length ≤ n → s₁.gens = #[] →
      codeAny (model l.prog w) callerA (.call (.ref fa) ⟨[.ref a], []⟩) (fun r s' => r = .ok (.ret (.bool true)) ∧ OldK s₁.heap s'.heap ∧ s'.os = s₁.os ∧ AllBare s'.gens) s₁) :
    WalkO q loose XP YP l.row.toRowW d [] (fun f vs => PySem.call f vs) := by
  intro w s₀ s₁ mg mb G Y fa o pm cd doc dV kV ho hd hcd hD hmg hg args vals as hpre hlay hrd hwl hlo
  obtain rfl : dV = .none := Dflts.none hD hdf
  obtain rfl : kV = .none := Dflts.noKw hD
  obtain ⟨a, vs, ns, rfl, rfl, hobj, hints, hlen⟩ := script_of hn hpre hwl
  refine enter_call (codeAny_mono (call w s₀ s₁ mg mb fa o pm cd doc a vs ns G Y ho (fd_plain hd) hcd hmg hobj hints hlen hg) fun r s' hq => ?_)
  obtain ⟨rfl, h2, h3, h4⟩ := hq
  exact ⟨.inl ⟨.bool true, .bool true, [], rfl, fun _ => rfl, .bool true, post_true l _, fun _ => ⟨List.Pairwise.nil, fun _ hm => (nomatch hm)⟩⟩, h2, h3, h4⟩
theorem attachN {l : OpenLaw} {n : Nat} {q : Program} {loose : List Str} {XP : (Str → Option Value) → Heap → Prop} {YP : World → Heap → Prop} {d : DefRec} {x : Str}
    (hn : l.most = some n) (hdf : d.params.defaults = [])
    (hbind : ∀ pm cd doc v : Value, bindArgs (docDef d.name d.params d.body d.scope pm cd doc) ⟨[v], []⟩ = pure [(x, v)])
    (hx : d.scope.names.lookup x = some .local ∨ d.scope.names.lookup x = some .cell)
    (hk : d.scope.kind = .function) (hco : d.scope.isCoroutine = false) (hgen : d.scope.isGenerator = false)
    (body : ∀ (w : World) (s₀ s₁ s : Shared) (mg mb : Str → Option Value) (fa : Addr) (o : Obj) (pm cd doc : Value) (a : Addr) (vs : List Value) (ns : List Int),
      Ground q loose [] XP w s₀ mg mb s₁.heap → YP w s₁.heap →
      s₁.heap.get? fa = some o → o.data = .func (docDef d.name d.params d.body d.scope pm cd doc) → s₁.heap.CodeRec cd d.name → mg d.name = some (.ref fa) →
      s₁.heap.get? a = some { cls := .type "list", data := .seq vs.toArray } → IntsAre vs ns → ns.length ≤ n →
      s.gens = #[] → s.os = s₁.os →
      Fr s₁.heap s₁.heap.objs.size s.heap (bindL (envOfC d.name d.scope s₁.heap.objs.size fa cd).kindOf [(x, .ref a)] fun _ => none) →
      Cl s₁.heap.objs.size (cellsFrom (s₁.heap.objs.size + 1) d.scope.names []) s.heap (bindC (envOfC d.name d.scope s₁.heap.objs.size fa cd).kindOf [(x, .ref a)] fun _ => none) →
      wpAny (model l.prog w) (callerA.deeper (envOfC d.name d.scope s₁.heap.objs.size fa cd)) (execs d.body (envOfC d.name d.scope s₁.heap.objs.size fa cd))
        (fun f s' => f = .ret (.bool true) ∧ (∀ b o, s₁.heap.get? b = some o → s'.heap.get? b = some o) ∧ s'.os = s₁.os ∧ s'.gens = #[]) (fun _ _ => False) s) :
    WalkN q loose XP YP l.row.toRowW d [] (fun f vs => PySem.call f vs) := by
  intro w s₀ s₁ mg mb G Y fa o pm cd doc dV kV ho hd hcd hD hmg hg args vals as hpre hlay hrd hwl hlo
  obtain rfl : dV = .none := Dflts.none hD hdf
  obtain rfl : kV = .none := Dflts.noKw hD
  obtain ⟨a, vs, ns, rfl, rfl, hobj, hints, hlen⟩ := script_of hn hpre hwl
  refine enter_callW ?_
  refine call_cells_ret (o := o) (by rw [depth_caller]; decide) ho (fd_plain hd) G.T.nolimit hcd (hbind pm cd doc (.ref a)) (fun y hy => ?_) (fun h₁ tk F X => ?_) hco hgen hk
  · obtain rfl : y = (x, Value.ref a) := List.mem_singleton.mp hy
    rcases hx with e | e
    · exact .inl e
    · exact .inr ⟨e, cellsFrom_some _ _ _ (.inl e)⟩
  · refine wpAny_mono (body w s₀ s₁ { s₁ with heap := h₁, toks := tk } mg mb fa o pm cd doc a vs ns G Y ho (fd_plain hd) hcd hmg hobj hints hlen hg rfl F X) (fun f s' hq => ?_) (fun _ _ hq => hq)
    obtain ⟨rfl, h2, h3, h4⟩ := hq
    exact ⟨.inl ⟨.bool true, .bool true, [], rfl, fun _ => rfl, .bool true, post_true l _, fun _ => ⟨List.Pairwise.nil, fun _ hm => (nomatch hm)⟩⟩, h2, h3, h4⟩
section
variable {prog : Program} {w : World} {A : Around} {E : Value → Shared → Prop} {s : Shared} {K : Frag}
theorem call_fn {R : Result → Shared → Prop} {name qual : Str} {params : Arguments} {body : List Stmt} {scope : Scope} {dV kV doc pm cdv ct oc : Value} {an od : Option Addr} {osl : Array (Option Value)} {f : Addr} {args : Args} {binds : List (Str × Value)}
    (X : K.In s.heap) (hlim : s.heap.NoLimit) (ho : K.lookup f = some ⟨oc, od, .func (fnOf name qual params body scope dV kV doc pm an cdv ct), osl⟩) (hcd : codeIn K cdv qual = true) (hroom : A.depth < recursionLimit)
    (hbind : BindsTo s (fnOf name qual params body scope dV kV doc pm an cdv ct) args binds)
    (hkind : (binds.all fun y => scope.names.lookup y.1 == some .local || scope.names.lookup y.1 == some .cell) = true)
    (h : ∀ s₁, InCallC s s.heap.objs.size (bindL (envOfC qual scope s.heap.objs.size f cdv).kindOf binds fun _ => none) (cellsFrom (s.heap.objs.size + 1) scope.names [])
        (bindC (envOfC qual scope s.heap.objs.size f cdv).kindOf binds fun _ => none) s₁ →
      wpAny (model prog w) (A.deeper (envOfC qual scope s.heap.objs.size f cdv)) (execs body (envOfC qual scope s.heap.objs.size f cdv))
        (fun fl s' => R (.ok (.ret (match fl with | .ret v => v | _ => .none))) s')
        (fun e s' => wpAny (model prog w) (A.deeper (envOfC qual scope s.heap.objs.size f cdv)) (leaving (envOfC qual scope s.heap.objs.size f cdv) e) (fun _ s'' => R (.error e) s'') (fun e' s'' => R (.error e') s'') s') s₁)
    (hco : scope.isCoroutine = false) (hgen : scope.isGenerator = false) (hk : scope.kind = .function) : codeAny (model prog w) A (.call (.ref f) args) R s := by
  refine codeAny_call_function hroom (X _ _ ho) rfl hco hgen rfl (codeRec_of X hcd) (hbind _ _ _ _ ?_)
  refine wpAny_newFunctionEnv_cells hk (kindsX hkind _) fun env he s₁ x => ?_
  subst he
  exact ⟨hlim.keeps x.toInCall.keep, codeAny_func (h s₁ x)⟩
theorem make_obj {R : Result → Shared → Prop} {C fI : Addr} {rest : List Value} {kw : List (Str × Value)}
    (X : K.In s.heap) (hm : makesIn K C = true) (hi : findIn K (.ref C) "__init__" = some (some (.ref fI))) (hf : isFn K (.ref fI) = true)
    (h : codeAny (model prog w) (A.under (.builtin "type.__call__" ⟨.ref C :: rest, kw⟩)) (.call (.ref fI) ⟨.ref (s.heap.objs.size + 1) :: rest, kw⟩) (InitBack (s.heap.objs.size + 1) R)
      { s with heap := (s.heap.push emptyDict).push (instObj C s.heap.objs.size) }) : codeAny (model prog w) A (.call (.ref C) ⟨rest, kw⟩) R s := by
  obtain ⟨hh, g, d, t, os⟩ := s
  exact make_core (makes_of X hm) (looks_findIn X hi) (fun self => bind_fn X self (beq_iff_eq.mp hf)) (.inl rfl) h
theorem get_field {x C : Addr} {ox : Obj} {es : List DictEntry} {n : Nat} {name : Str} {expr : Bool} {v : Value} {Q : Value → Shared → Prop}
    (X : K.In s.heap) (I : PySem.W.InstAt s.heap x ox C (some (dictOf es n))) (hg : plainGet K C name = true) (hh : hasDictIn K C = true) (ha : findIn K (.ref C) name = some none)
    (hl : getL name es = some (some v)) (hv : handedIn v = true) (h : Q v { s with toks := s.toks + 1 }) : wpAny (model prog w) A (getAttr (.ref x) name expr) Q E s :=
  get_value X I (plainGet_of hg).1 (findObj_own hh ha rfl hl) hv h
theorem get_method {x C f : Addr} {ox : Obj} {es : List DictEntry} {n : Nat} {name : Str} {pl : Sem Bool} {Q : Value × List Value → Shared → Prop}
    (X : K.In s.heap) (I : PySem.W.InstAt s.heap x ox C (some (dictOf es n))) (hg : plainGet K C name = true) (hf : findIn K (.ref C) name = some (some (.ref f))) (ht : isFn K (.ref f) = true)
    (hl : getL name es = some none) (h : Q (.ref f, [.ref x]) s) : wpAny (model prog w) A (getMethod (.ref x) name pl) Q E s :=
  method_fn X I (plainGet_of hg).1 (plainGet_of hg).2 hf (beq_iff_eq.mp ht) (by show (lookIn name (dictOf es n)).map _ = _; rw [lookIn_dict, hl]; rfl) h
def noObjs (h : Heap) : Heap := { h with objs := #[] }
theorem noObjs_get (h : Heap) (b : Addr) : (noObjs h).get? b = none := by
  cases e : (noObjs h).get? b with
  | none => rfl
  | some o => exact absurd (Heap.lt_size e) (Nat.not_lt_zero _)
def ledger (h : Heap) (L d : Addr) : List (Addr × Obj) := (List.range h.objs.size).filterMap fun a => if a = L ∨ a = d then none else (h.get? a).map fun o => (a, o)
theorem mem_ledger {h : Heap} {L d a : Addr} {o : Obj} : (a, o) ∈ ledger h L d ↔ a ≠ L ∧ a ≠ d ∧ h.get? a = some o := by
  unfold ledger
  rw [List.mem_filterMap]
  constructor
  · rintro ⟨b, _, e⟩
    split at e
    · cases e
    · rename_i hb
      obtain ⟨o', ho, e'⟩ := Option.map_eq_some_iff.mp e
      cases e'
      exact ⟨fun q => hb (.inl q), fun q => hb (.inr q), ho⟩
  · rintro ⟨n1, n2, ho⟩
    refine ⟨a, List.mem_range.mpr (Heap.lt_size ho), ?_⟩
    rw [if_neg (show ¬ (a = L ∨ a = d) from fun q => q.elim n1 n2), ho] <;> rfl
theorem news_ledger {h : Heap} {L d : Addr} {od : Obj} (hne : d ≠ L) (ho : h.get? d = some od) : News (noObjs h) L h ([] ++ (d, od) :: ledger h L d) := by
  rintro ⟨a, o⟩ hp
  rcases List.mem_cons.mp hp with e | hp
  · cases e
    exact ⟨ho, hne, noObjs_get _ _⟩
  · obtain ⟨n1, n2, e⟩ := mem_ledger.mp hp
    exact ⟨e, n1, noObjs_get _ _⟩
theorem fr_all {h : Heap} {L : Addr} {m : Str → Option Value} (n : h.Ns L m) : Fr (noObjs h) L h m :=
  ⟨n, fun b o e => (by rw [noObjs_get] at e; cases e), Nat.zero_le _⟩
theorem upd_ledger {h : Heap} {L d : Addr} {o o' : Obj} : Upd d o o' ((d, o) :: ledger h L d) ((d, o') :: ledger h L d) :=
  .head fun ⟨_, _⟩ hp => (mem_ledger.mp hp).2.1
theorem set_field {x C dx L : Addr} {ox : Obj} {m : Str → Option Value} {es es' : List DictEntry} {n n' : Nat} {name : Str} {v : Value} {Q : Unit → Shared → Prop}
    (X : K.In s.heap) (I : PySem.W.InstAt s.heap x ox C (some (dictOf es n))) (hd : ox.dict = some dx) (hL : s.heap.Ns L m) (hne : dx ≠ L)
    (hs : findIn K (.ref C) "__setattr__" = some (some (.builtin "object.__setattr__"))) (hp : plainOver K C = true) (ht : takerIn K C name = some none) (hh : hasDictIn K C = true) (hl : (getL name es).isSome = true)
    (e : (putL name (PyData.keyHash w.params name) (.str name (s.toks + 1)) v es, putN name es n) = (es', n')) (hz : es'.length ≤ 1000)
    (h : ∀ h' : Heap, h'.Ns L m → h'.get? dx = some (dictOf es' n') → (∀ b o, b ≠ dx → b ≠ L → s.heap.get? b = some o → h'.get? b = some o) → Q () { s with heap := h', toks := s.toks + 2 }) :
    wpAny (model prog w) A (setAttr (.ref x) name v) Q E s := by
  obtain ⟨e1, e2⟩ := Prod.mk.inj e
  have hdx : s.heap.get? dx = some (dictOf es n) := by
    have := I.dict
    rw [hd] at this
    exact this
  refine set_plain X I hs (osa_dict (s := { s with toks := s.toks + 1 }) (h₀ := noObjs s.heap) (L := L) (m := m) (od := dictOf es n) (od' := dictOf es' n') (es := es') (n := n') (pre := []) (post := ledger s.heap L dx)
    (fr_all hL) (news_ledger hne hdx) X I hd hp ht hh hl (fun _ q => nomatch q) (fun ⟨_, _⟩ q => (mem_ledger.mp q).2.1) (by rw [putName_dict, e1, e2]) rfl hz fun h' F' N' => ?_)
  exact h h' F'.ns (N'.get (List.Mem.head _)) fun b o n1 n2 ho => N'.get (List.Mem.tail _ (mem_ledger.mpr ⟨n2, n1, ho⟩))
end
end Att
namespace L2
open PySem PySem.Spec PyProof.Rows
theorem vals_ints : ∀ {vs : List Value} {ns : List Int}, IntsAre vs ns → Vals (ns.map V.int) vs
  | _, _, .nil => .nil
  | _, _, .cons n t h => .cons ⟨t, rfl⟩ (vals_ints h)
def Only (H : Hp) : Prop := ∀ b, H b = none ∨ ∃ o xs, H b = some (.frz o (.lst xs))
theorem law_call {P : Program} {w : World} {K : PySem.W.Frag} {mg mb : Str → Option Value} {CX : CXT} {k : Nat} {fa a : Addr} {fd : FuncData} {x : Str} {sp : Sp} {s₁ : Shared} {vs : List Value} {ns : List Int}
    (KX : K.In s₁.heap) (hns : s₁.heap.Ns mainGlobals mg) (hb : s₁.heap.Ns builtinsNs mb) (hbb : ∀ x : Str, x ≠ "__name__" → mb x = bootBuiltins x) (hlim : s₁.heap.NoLimit) (hg : s₁.gens = #[])
    (ha : s₁.heap.get? a = some { cls := .type "list", data := .seq vs.toArray }) (hi : IntsAre vs ns) (hl : ns.length ≤ sizeLine) (hr : Room k callerA)
    (F : ∀ base : Heap, K.In base → base.Ns mainGlobals mg → FnOk P w K mg base CX k fa fd [x] sp) (hbind : ∀ (s : Shared) (u : Value), BindsTo s fd ⟨[u], []⟩ [(x, u)])
    (hsp : ∀ H : Hp, Only H → SqL K H a (ns.map V.int) → sp [.ref a] H (fun v _ => v = .bl true) fun _ _ _ => False)
    (hCX : ∀ H e s', CX [] H s₁ (fun _ _ _ => False) e s' → False) :
    codeAny (model P w) callerA (.call (.ref fa) ⟨[.ref a], []⟩) (fun r s' => r = .ok (.ret (.bool true)) ∧ OldK s₁.heap s'.heap ∧ s'.os = s₁.os ∧ AllBare s'.gens) s₁ := by
  have rv := vals_ints hi
  have lenV := hi.length
  have core : ∀ H : Hp, Only H → SqL K H a (ns.map V.int) → HOk P w H s₁.heap → (∀ b, H b ≠ none → b = a) → (H a ≠ none → K.lookup a = none) →
      codeAny (model P w) callerA (.call (.ref fa) ⟨[.ref a], []⟩) (fun r s' => r = .ok (.ret (.bool true)) ∧ OldK s₁.heap s'.heap ∧ s'.os = s₁.os ∧ AllBare s'.gens) s₁ := by
    intro H hO hS hok hA hK
    have base_of : ∀ {b : Addr} {o : Obj}, s₁.heap.get? b = some o → H b = none → (hidT s₁.heap H).get? b = some o := fun e n => hidT_get e n
    have noA : ∀ {b : Addr} {o : Obj} {es : Array DictEntry} {ep : Nat}, s₁.heap.get? b = some o → o.data = .dict es ep → H b = none := fun {b o es ep} e d => by
      cases q : H b with
      | none => rfl
      | some u =>
        have e' : b = a := hA b (by rw [q]; simp)
        subst e'
        rw [ha] at e; cases e
        have d' : Data.seq vs.toArray _ = Data.dict es ep := d
        cases d'
    have nsK : ∀ {b : Addr} {m : Str → Option Value}, s₁.heap.Ns b m → (hidT s₁.heap H).Ns b m := fun {b m} ⟨o, es, ep, e, d, r⟩ => ⟨o, es, ep, base_of e (noA e d), d, r⟩
    have hKb : K.In (hidT s₁.heap H) := fun b o e => base_of (KX b o e) (by
      cases q : H b with
      | none => rfl
      | some u =>
        have e' : b = a := hA b (by rw [q]; simp)
        subst e'
        rw [hK (by rw [q]; simp)] at e; cases e)
    have hM : Mod K mg (hidT s₁.heap H) := ⟨hKb, nsK hns, ⟨mb, nsK hb, hbb⟩, let ⟨mc, h1, h2⟩ := hlim; ⟨mc, nsK h1, h2⟩⟩
    have e0 : Env0 P w K mg (hidT s₁.heap H) callerA [] s₁ H := ⟨rfl, hM, fun b o e => of_hidT e, Nat.le_of_eq (hidT_size _ _), trivial, fun b hb => absurd (show b ∈ ([] : List Addr) from hb) (by simp), hok, .of_eq hg⟩
    refine codeAny_mono ((F _ hKb (nsK hns)).run callerA [] s₁ H ⟨[.ref a], []⟩ [.ref a] [.ref a] _ _ hr e0 (hbind s₁ (.ref a)) (.cons rfl .nil) (hsp H hO hS)) fun r s' h => ?_
    cases r with
    | error e => exact (hCX H e s' h).elim
    | ok fl =>
      cases fl with
      | next => exact False.elim h
      | brk => exact False.elim h
      | cont => exact False.elim h
      | ret u =>
        obtain ⟨v, H', os, bare, un, hok', r', q⟩ := h
        have q' : v = .bl true := q
        subst q'
        obtain rfl : u = Value.bool true := r'
        refine ⟨rfl, OldK.of_keep fun b o e => ?_, os, bare⟩
        cases q : H b with
        | none => exact un.keep b o e q (by intro z; exact absurd (show b ∈ ([] : List Addr) from z) (by simp)) (by simp)
        | some u =>
          rcases hO b with z | ⟨ob, xs, z⟩
          · rw [q] at z; cases z
          · have z2 := un.frzs b ob _ z
            obtain ⟨e1, _⟩ := hok b _ z
            obtain ⟨e2, _⟩ := hok' b _ z2
            rw [e] at e1; cases e1
            exact e2
  cases hk : K.lookup a with
  | some o =>
    have e := KX a o hk
    rw [ha] at e
    cases e
    refine core (fun _ => none) (fun _ => .inl rfl) (.inr ⟨_, vs.toArray, _, hk, rfl, rfl, rfl, by rw [List.size_toArray, lenV]; exact hl, by simpa using rv⟩) (fun b u z => by have z' : (none : Option HO) = some u := z; cases z') (fun b z => absurd rfl z) fun z => absurd rfl z
  | none =>
    refine core (fun b => if b = a then some (.frz { cls := .type "list", data := .seq vs.toArray } (.lst (ns.map V.int))) else none) (fun b => ?_) (.inl (.inr ⟨{ cls := .type "list", data := .seq vs.toArray }, if_pos rfl⟩)) (fun b u z => ?_) (fun b z => ?_) fun _ => hk
    · by_cases hb : b = a
      · exact .inr ⟨_, _, if_pos hb⟩
      · exact .inl (if_neg hb)
    · by_cases hb : b = a
      · have z' := (if_pos hb).symm.trans z
        cases z'
        subst hb
        exact ⟨ha, by rw [List.length_map]; exact hl, vs, _, rv, ha⟩
      · have z' := (if_neg hb).symm.trans z
        cases z'
    · by_cases hb : b = a
      · exact hb
      · exact absurd (if_neg hb) z
end L2
namespace L2
open PySem PySem.Spec PyProof.Rows
abbrev KOf {K : PySem.W.Frag} {h : Heap} (_ : K.In h) : PySem.W.Frag := K
theorem walk_of {l : PySem.W.OpenLaw} {n k : Nat} {q : Program} {loose : List Str} {XP : (Str → Option Value) → Heap → Prop} {YP : World → Heap → Prop} {d : DefRec} {K : Params → PySem.W.Frag} {CX : World → CXT} {sp : World → Sp} {x : Str}
    (hn : l.most = some n) (hn2 : n ≤ sizeLine) (hdf : d.params.defaults = []) (hr : Room k callerA)
    (hY : ∀ (w : World) (h : Heap), YP w h → (K w.params).In h)
    (F : ∀ (w : World) (mg : Str → Option Value) (fa : Addr) (h : Heap), (K w.params).In h → h.Ns mainGlobals mg → mg d.name = some (.ref fa) →
      ∃ fd : FuncData, (∀ (s : Shared) (u : Value), BindsTo s fd ⟨[u], []⟩ [(x, u)]) ∧
        ∀ base : Heap, (K w.params).In base → base.Ns mainGlobals mg → FnOk l.prog w (K w.params) mg base (CX w) k fa fd [x] (sp w))
    (hsp : ∀ (w : World) (H : Hp) (a : Addr) (ns : List Int), ns.length ≤ n → Only H → SqL (K w.params) H a (ns.map V.int) → sp w [.ref a] H (fun v _ => v = .bl true) fun _ _ _ => False)
    (hCX : ∀ (w : World) (H : Hp) (s : Shared) (e : Value) (s' : Shared), CX w [] H s (fun _ _ _ => False) e s' → False) :
    PySem.W.WalkO q loose XP YP l.row.toRowW d [] (fun f vs => PySem.call f vs) := by
  refine Att.attach_call hn hdf fun w s₀ s₁ mg mb fa o pm cd doc a vs ns G Y ho hd hcd hmg hobj hints hlen hg => ?_
  have KX := hY w _ Y
  obtain ⟨fd, hb, hF⟩ := F w mg fa _ KX G.T.g hmg
  exact law_call KX G.T.g G.T.b G.T.builtins G.T.nolimit hg hobj hints (Nat.le_trans hlen hn2) hr hF hb (fun H hO hS => hsp w H a ns hlen hO hS) fun H e s' => hCX w H s₁ e s'
theorem walk_ofK {l : PySem.W.OpenLaw} {n k : Nat} {q : Program} {loose : List Str} {XP : (Str → Option Value) → Heap → Prop} {YP : World → Heap → Prop} {d : DefRec} {K : Params → PySem.W.Frag} {CX : CXT} {sp : PySem.W.Frag → Sp} {x : Str}
    (hn : l.most = some n) (hn2 : n ≤ sizeLine) (hdf : d.params.defaults = []) (hr : Room k callerA)
    (hY : ∀ (w : World) (h : Heap), YP w h → (K w.params).In h)
    (F : ∀ (w : World) (mg : Str → Option Value) (fa : Addr) (h : Heap), (K w.params).In h → h.Ns mainGlobals mg → mg d.name = some (.ref fa) →
      ∃ fd : FuncData, (∀ (s : Shared) (u : Value), BindsTo s fd ⟨[u], []⟩ [(x, u)]) ∧
        ∀ base : Heap, (K w.params).In base → base.Ns mainGlobals mg → FnOk l.prog w (K w.params) mg base CX k fa fd [x] (sp (K w.params)))
    (hsp : ∀ (K : PySem.W.Frag) (H : Hp) (a : Addr) (ns : List Int), ns.length ≤ n → Only H → SqL K H a (ns.map V.int) → sp K [.ref a] H (fun v _ => v = .bl true) fun _ _ _ => False)
    (hCX : ∀ (H : Hp) (s : Shared) (e : Value) (s' : Shared), CX [] H s (fun _ _ _ => False) e s' → False) :
    PySem.W.WalkO q loose XP YP l.row.toRowW d [] (fun f vs => PySem.call f vs) :=
  walk_of (K := K) (CX := fun _ => CX) (sp := fun w => sp (K w.params)) hn hn2 hdf hr hY F (fun w H a ns h1 h2 h3 => hsp (K w.params) H a ns h1 h2 h3) fun _ H s e s' => hCX H s e s'
end L2
namespace L2
open PySem PySem.Spec PyProof.Rows
def inClass (s : Stmt) (j : Nat) : Stmt := match s with
  | .ClassDef _ _ _ body _ _ _ _ _ _ _ => body.getD j (.Pass ⟨0, 0, 0, 0⟩)
  | _ => .Pass ⟨0, 0, 0, 0⟩
def defArgs (s : Stmt) : Arguments := match s with
  | .FunctionDef _ a _ _ _ _ _ _ _ _ => a
  | _ => { posonlyargs := [], args := [], vararg := none, kwonlyargs := [], kw_defaults := [], kwarg := none, defaults := [] }
def defBody (s : Stmt) : List Stmt := match s with
  | .FunctionDef _ _ b _ _ _ _ _ _ _ => b
  | _ => []
def defScope (s : Stmt) : Scope := match s with
  | .FunctionDef _ _ _ _ _ _ sc _ _ _ => sc
  | _ => { kind := .function, names := [], isGenerator := false, isCoroutine := false }
abbrev CX0 : CXT := fun _ _ _ _ _ _ => False
abbrev E0 : XK := fun _ _ _ => False
theorem pass0 {X : Cx} : Passes CX0 X E0 := fun _ _ _ _ _ _ _ h => h.elim
structure Fun (K : PySem.W.Frag) (x qual : Str) (st : Stmt) (f : Addr) (fd : FuncData) : Prop where
  ex : ∃ (oc : Value) (od : Option Addr) (kV doc pm : Value) (an : Option Addr) (cdv ct : Value) (osl : Array (Option Value)),
    fd = PySem.W.fnOf x qual (defArgs st) (defBody st) (defScope st) .none kV doc pm an cdv ct ∧ K.lookup f = some ⟨oc, od, .func fd, osl⟩ ∧ PySem.W.codeIn K cdv qual = true
  kp : PySem.W.keepIn K (.ref f) = true
section
variable {P : Program} {w : World} {K : PySem.W.Frag} {mg : Str → Option Value} {base : Heap}
theorem Fun.ok {x qual : Str} {st : Stmt} {f : Addr} {fd : FuncData} {N ps : List Str} {k : Nat} {sp : Sp} (F : Fun K x qual st f fd) (S : FnScope N ps (defScope st)) (len : ∀ vs H Q E, sp vs H Q E → vs.length = ps.length)
    (hbody : ∀ (cdv : Value) (A : Around) (outer : List Env) (s : Shared) (H : Hp) (vs : List V) (Q : VK) (E : XK), Room k (A.deeper (envOfC qual (defScope st) s.heap.objs.size f cdv)) → sp vs H Q E →
      ∃ t, PSs (cxOf CX0 P w K mg base N qual (defScope st) f cdv A outer s H E).nox (defBody st) t ∧ t { nx := fun _ H' => Q .non H', rt := Q } (start N vs) H) : FnOk P w K mg base CX0 (k + 1) f fd ps sp := by
  obtain ⟨oc, od, kV, doc, pm, an, cdv, ct, osl, rfl, lk, hcd⟩ := F.ex
  refine fn_of lk hcd S len fun A outer s H vs Q E hr hsp => ?_
  obtain ⟨t, h, q⟩ := hbody cdv A outer s H vs Q E hr hsp
  exact ⟨t, h.nox, q⟩
theorem Fun.binds {x qual : Str} {st : Stmt} {f : Addr} {fd : FuncData} {ps : List Str} (F : Fun K x qual st f fd)
    (h : ∀ (kV doc pm : Value) (an : Option Addr) (cdv ct : Value) (us : List Value), us.length = ps.length → bindArgs (PySem.W.fnOf x qual (defArgs st) (defBody st) (defScope st) .none kV doc pm an cdv ct) ⟨us, []⟩ = pure (ps.zip us)) : Binds K fd ps [] := by
  obtain ⟨oc, od, kV, doc, pm, an, cdv, ct, osl, rfl, lk, hcd⟩ := F.ex
  exact .all (h kV doc pm an cdv ct)
theorem fun_mk {x qual : Str} {st : Stmt} {f : Addr} {oc : Value} {od an : Option Addr} {osl : Array (Option Value)} {kV doc pm cdv ct : Value} (l : K.lookup f = some ⟨oc, od, .func (PySem.W.fnOf x qual (defArgs st) (defBody st) (defScope st) .none kV doc pm an cdv ct), osl⟩)
    (c : PySem.W.codeIn K cdv qual = true) (k : PySem.W.keepIn K (.ref f) = true) : Fun K x qual st f (PySem.W.fnOf x qual (defArgs st) (defBody st) (defScope st) .none kV doc pm an cdv ct) := ⟨⟨oc, od, kV, doc, pm, an, cdv, ct, osl, rfl, l, c⟩, k⟩
end
theorem hu_of {A : Around} {k : Nat} (hr : Room k A) : A.units + 1 < cLine := Nat.lt_of_le_of_lt (Nat.add_le_add_left (by decide : 1 ≤ 64) _) hr.units
theorem small1000 {n : Nat} (h : n ≤ 1000) : n < sizeLine := Nat.lt_of_le_of_lt h (by decide)
section
variable {X : Cx}
theorem pv (i : Nat) {x : Str} {pos : Pos} (hN : X.N[i]? = some x := by rfl) (hv : Vis X.env.scope x := by first | exact Or.inl rfl | exact Or.inr (Or.inl rfl) | exact Or.inr (Or.inr rfl)) (hd : (x == ("__debug__" : Str)) = false := by decide)
    (hcd : (x == ("__classdict__" : Str)) = false := by decide) : PE X (.Name x pos) (tVar i) := pe_var hN hv hd hcd
theorem call_lenD : CallR X (.builtin "len") (fun xs H Q => ∃ a kvs, xs = [V.ref a] ∧ H a = some (.dK kvs) ∧ Q (.int kvs.length) H) := by
  intro pins s σ H xs us Q I r h
  obtain ⟨a, kvs, rfl, ha, q⟩ := h
  obtain ⟨u, rfl, ru⟩ := vals1 r
  cases ru
  exact d_len I (.inl ha) fun t s' I' => ⟨.int kvs.length, H, I', ⟨t, rfl⟩, q⟩
end
theorem iteF {A B : Prop} (h : B) : if false = true then A else B := by
  rw [if_neg Bool.false_ne_true]
  exact h
theorem iteT {A B : Prop} (h : A) : if true = true then A else B := by
  rw [if_pos rfl]
  exact h
theorem ite2 {c A B : Prop} [Decidable c] (h1 : c → A) (h2 : ¬ c → B) : if c then A else B := by
  by_cases h : c
  · rw [if_pos h]
    exact h1 h
  · rw [if_neg h]
    exact h2 h
theorem iteNS {c A B : Prop} [Decidable c] (hc : c) (h : B) : if (!decide c) = true then A else B := by
  rw [decide_eq_true hc]
  exact iteF h
def Same (H H' : Hp) : Prop := ∀ b o, H b = some o → H' b = some o
theorem Same.refl (H : Hp) : Same H H := fun _ _ h => h
theorem Same.trans {H H1 H2 : Hp} (a : Same H H1) (b : Same H1 H2) : Same H H2 := fun c o h => b c o (a c o h)
theorem Same.free {H H' : Hp} (e : Same H H') {l : Addr} (h : H' l = Option.none) : H l = Option.none := by
  cases q : H l with
  | none => rfl
  | some o =>
    rw [e l o q] at h
    cases h
theorem Same.seq {K : PySem.W.Frag} {H H' : Hp} {a : Addr} {xs : List V} (e : Same H H') (h : SqL K H a xs) : SqL K H' a xs := by
  rcases h with (h | ⟨o, h⟩) | h
  · exact .inl (.inl (e _ _ h))
  · exact .inl (.inr ⟨o, e _ _ h⟩)
  · exact .inr h
section
variable {κ : Type} [DecidableEq κ]
theorem valV_not {kvs : List (κ × V)} {k : κ} (h : valV kvs k = none) : ¬ k ∈ kvs.map (·.1) := by
  intro m
  obtain ⟨p, hp, e⟩ := List.mem_map.mp m
  have q : (kvs.any fun kv => decide (kv.1 = k)) = true := List.any_eq_true.mpr ⟨p, hp, decide_eq_true e⟩
  rw [valV_any, h] at q
  exact absurd q (by simp)
theorem valV_in {kvs : List (κ × V)} {k : κ} {v : V} (h : valV kvs k = some v) : k ∈ kvs.map (·.1) := by
  have q : (kvs.any fun kv => decide (kv.1 = k)) = true := by
    rw [valV_any, h]
    all_goals rfl
  obtain ⟨p, hp, e⟩ := List.any_eq_true.mp q
  exact List.mem_map.mpr ⟨p, hp, of_decide_eq_true e⟩
theorem nd_snoc : ∀ {l : List κ} {k : κ}, l.Nodup → ¬ k ∈ l → (l ++ [k]).Nodup
  | [], k, _, _ => by simp
  | a :: r, k, h, hk => by
    obtain ⟨h1, h2⟩ := List.nodup_cons.mp h
    show (a :: (r ++ [k])).Nodup
    refine List.nodup_cons.mpr ⟨fun m => ?_, nd_snoc h2 fun m => hk (List.mem_cons.mpr (Or.inr m))⟩
    rcases List.mem_append.mp m with q | q
    · exact h1 q
    · exact hk (List.mem_cons.mpr (Or.inl (List.mem_singleton.mp q).symm))
theorem nd_putK {kvs : List (κ × V)} {k : κ} (v : V) (hn : (kvs.map (·.1)).Nodup) (h : valV kvs k = none) : ((putK kvs k v).map (·.1)).Nodup := by
  rw [putK_new v h, List.map_append]
  exact nd_snoc hn (valV_not h)
theorem dropK_pos {p : κ × V} {r : List (κ × V)} {k : κ} (e : p.1 = k) : dropK (p :: r) k = dropK r k := by
  unfold dropK
  rw [List.filter_cons, if_neg (by simp [e])]
theorem dropK_neg {p : κ × V} {r : List (κ × V)} {k : κ} (e : ¬ p.1 = k) : dropK (p :: r) k = p :: dropK r k := by
  unfold dropK
  rw [List.filter_cons, if_pos (by simp [e])]
theorem dropK_no : ∀ {kvs : List (κ × V)} {k : κ}, ¬ k ∈ kvs.map (·.1) → dropK kvs k = kvs
  | [], _, _ => rfl
  | p :: r, k, h => by
    have h' : ¬ k ∈ r.map (·.1) := fun m => by
      obtain ⟨q, hq, e⟩ := List.mem_map.mp m
      exact h (List.mem_map.mpr ⟨q, List.mem_cons.mpr (Or.inr hq), e⟩)
    rw [dropK_neg fun e => h (List.mem_map.mpr ⟨p, List.mem_cons.mpr (Or.inl rfl), e⟩), dropK_no h']
theorem dropK_mem {kvs : List (κ × V)} {k : κ} {p : κ × V} (h : p ∈ dropK kvs k) : p ∈ kvs := (List.mem_filter.mp h).1
theorem nd_dropK : ∀ {kvs : List (κ × V)} {k : κ}, (kvs.map (·.1)).Nodup → ((dropK kvs k).map (·.1)).Nodup
  | [], _, _ => List.nodup_nil
  | p :: r, k, h => by
    have h : (p.1 :: r.map (·.1)).Nodup := h
    obtain ⟨h1, h2⟩ := List.nodup_cons.mp h
    by_cases e : p.1 = k
    · rw [dropK_pos e]
      exact nd_dropK h2
    · rw [dropK_neg e]
      show (p.1 :: (dropK r k).map (·.1)).Nodup
      refine List.nodup_cons.mpr ⟨fun m => h1 ?_, nd_dropK h2⟩
      obtain ⟨q, hq, eq⟩ := List.mem_map.mp m
      exact List.mem_map.mpr ⟨q, dropK_mem hq, eq⟩
theorem dropK_len : ∀ {kvs : List (κ × V)} {k : κ}, (kvs.map (·.1)).Nodup → k ∈ kvs.map (·.1) → (dropK kvs k).length + 1 = kvs.length
  | [], _, _, m => by simp at m
  | p :: r, k, h, m => by
    have h : (p.1 :: r.map (·.1)).Nodup := h
    have m : k = p.1 ∨ k ∈ r.map (·.1) := List.mem_cons.mp m
    obtain ⟨h1, h2⟩ := List.nodup_cons.mp h
    by_cases e : p.1 = k
    · subst e
      rw [dropK_pos rfl, dropK_no h1]
      all_goals rfl
    · have m' : k ∈ r.map (·.1) := m.resolve_left fun z => e z.symm
      have q := dropK_len h2 m'
      rw [dropK_neg e, List.length_cons, List.length_cons]
      omega
end
end L2
end
section
set_option Elab.async false
set_option linter.all false
set_option maxRecDepth 100000
namespace L2
open PySem PySem.Spec PyProof.Rows
section
variable {prog : Program} {w : World} {A : Around} {R : Result → Shared → Prop} {s : Shared}
theorem compLoop_own {elt target iter : Expr} {ifs : List Expr} {scope : Scope} {pos : Pos} {it acc : Value} {env : Env} (I : Nat → Shared → Prop)
    (turn : ∀ n s, I n s → wpAny (model prog w) A (pyNext it) (fun r s₁ => match r with
      | none => R (.ok .next) s₁
      | some v => wpAny (model prog w) A (letOwnedTupleGo target it v) (fun _ s₁' => wpAny (model prog w) A (assign target env v) (fun _ s₂ =>
          wpAny (model prog w) A (forIn ifs true fun c r => if r = true then do let ok ← isTrue c env (eval c env); pure (ForInStep.yield ok) else pure (ForInStep.yield r)) (fun ok s₃ =>
            if ok = true then wpAny (model prog w) A (eval elt env) (fun x s₄ =>
              wpAny (model prog w) A (call (.builtin "list.append") [acc, x]) (fun _ s₅ => ∃ m, m < n ∧ I m s₅) (fun _ _ => False) s₄) (fun _ _ => False) s₃
            else ∃ m, m < n ∧ I m s₃) (fun _ _ => False) s₂) (fun _ _ => False) s₁') (fun _ _ => False) s₁) (fun _ _ => False) s)
    (n : Nat) (h : I n s) :
    codeAny (model prog w) A (.compLoop (.ListComp elt [⟨target, iter, ifs, 0⟩] scope pos) 0 it acc env) R s := by
  refine codeAny_loop rfl I (fun n s hI => ?_) n h
  show wpAny _ A ((compTurn (.ListComp elt [⟨target, iter, ifs, 0⟩] scope pos) 0 it acc env).onRaise (fun x => do noteFrame x env; theTreesLotGoes x)) _ _ s
  refine wpAny_noted ?_
  rw [compTurn_list]
  refine wpAny_bind (wpAny_standAt (wpAny_bind (wpAny_mono (turn n s hI) (fun r s₁ h₁ => ?_) fun _ _ h' => h'.elim)))
  cases r with
  | none => exact wpAny_pure h₁
  | some v =>
    refine wpAny_bind (wpAny_mono h₁ (fun _ s₁' h₁' => ?_) fun _ _ h' => h'.elim)
    refine wpAny_bind (wpAny_mono h₁' (fun _ s₂ h₂ => wpAny_bind (wpAny_mono h₂ (fun ok s₃ h₃ => ?_) fun _ _ h' => h'.elim)) fun _ _ h' => h'.elim)
    cases ok with
    | false => exact wpAny_pure ⟨rfl, h₃⟩
    | true =>
      exact wpAny_bind (wpAny_bind (wpAny_mono h₃ (fun x s₄ h₄ => wpAny_bind (wpAny_mono h₄ (fun _ s₅ h₅ => wpAny_pure (wpAny_pure ⟨rfl, h₅⟩)) fun _ _ h' => h'.elim)) fun _ _ h' => h'.elim))
end
def clr : List Nat → St → St
  | [], σ => σ
  | j :: r, σ => clr r (σ.set j none)
theorem clr_len : ∀ (js : List Nat) (σ : St), (clr js σ).length = σ.length
  | [], _ => rfl
  | j :: r, σ => by rw [clr, clr_len r, List.length_set]
theorem clr_some : ∀ {js : List Nat} {σ : St} {i : Nat} {v : V}, (clr js σ)[i]? = some (some v) → σ[i]? = some (some v) ∧ i ∉ js
  | [], _, _, _, h => ⟨h, by simp⟩
  | j :: r, σ, i, v, h => by
    obtain ⟨h1, h2⟩ := clr_some (js := r) h
    by_cases e : j = i
    · subst e
      rw [List.getElem?_set] at h1
      rw [if_pos rfl] at h1
      split at h1 <;> cases h1
    · rw [List.getElem?_set_ne e] at h1
      exact ⟨h1, fun hm => (List.mem_cons.mp hm).elim (fun q => e q.symm) h2⟩
def closL (env : Env) : List (Str × NameKind) → List (Str × Addr) → List (Str × Addr)
  | [], acc => acc
  | (n, k) :: r, acc => closL env r (if k == .free then (match env.cells.lookup n with | some c => (n, c) :: acc | none => acc) else acc)
theorem closureFor_go {env : Env} : ∀ (names : List (Str × NameKind)) (acc : List (Str × Addr)), (∀ y ∈ names, y.2 = .free → ∃ c, env.cells.lookup y.1 = some c) →
    (forIn (m := Sem) names acc fun x r => match x with | (name, kind) => if (kind == NameKind.free) = true then do let a ← cellOf env name; pure (ForInStep.yield ((name, a) :: r)) else pure (ForInStep.yield r)) = pure (closL env names acc)
  | [], acc, _ => rfl
  | (n, k) :: r, acc, h => by
    rw [List.forIn_cons]
    have hr := fun acc => closureFor_go r acc fun y hy => h y (List.mem_cons_of_mem _ hy)
    by_cases hk : k = .free
    · subst hk
      obtain ⟨c, e⟩ := h (n, .free) List.mem_cons_self rfl
      have e : env.cells.lookup n = some c := e
      simp only [beq_self_eq_true, if_true, cellOf, e, pure_bind, closL]
      exact hr _
    · have hb : (k == NameKind.free) = false := by simpa using hk
      simp only [hb, Bool.false_eq_true, if_false, pure_bind, closL]
      exact hr _
theorem closureFor_eq {scope : Scope} {env : Env} (h : ∀ y ∈ scope.names, y.2 = .free → ∃ c, env.cells.lookup y.1 = some c) : closureFor scope env = pure (closL env scope.names []) := by
  have q := closureFor_go (env := env) scope.names [] h
  simp only [closureFor]
  first
    | (rw [q]; rfl)
    | (simp only [pure_bind, bind_pure_comp, map_pure] at q ⊢; rw [q]; rfl)
    | exact (congrArg (· >>= pure) q)
    | trace_state
theorem closL_sub {env : Env} {x : Str} {c : Addr} : ∀ (names : List (Str × NameKind)) (acc : List (Str × Addr)), (∀ c, acc.lookup x = some c → env.cells.lookup x = some c) → (closL env names acc).lookup x = some c → env.cells.lookup x = some c
  | [], acc, h, e => h _ e
  | (n, k) :: r, acc, h, e => by
    refine closL_sub r _ ?_ e
    intro c' e'
    split at e'
    · split at e'
      · rename_i c2 e2
        by_cases hx : x = n
        · subst hx
          simp only [List.lookup_cons, beq_self_eq_true] at e'
          cases e'
          exact e2
        · have hb : (x == n) = false := by simpa using hx
          simp only [List.lookup_cons, hb] at e'
          exact h _ e'
      · exact h _ e'
    · exact h _ e'
theorem closL_acc {env : Env} {x : Str} : ∀ (names : List (Str × NameKind)) (acc : List (Str × Addr)), (∃ c, acc.lookup x = some c) → ∃ c, (closL env names acc).lookup x = some c
  | [], acc, h => h
  | (n, k) :: r, acc, h => by
    refine closL_acc r _ ?_
    split
    · split
      · rename_i c2 e2
        by_cases hx : x = n
        · subst hx
          exact ⟨c2, by simp [List.lookup_cons]⟩
        · have hb : (x == n) = false := by simpa using hx
          obtain ⟨c, e⟩ := h
          exact ⟨c, by simp only [List.lookup_cons, hb]; exact e⟩
      · exact h
    · exact h
theorem closL_has {env : Env} {x : Str} : ∀ (names : List (Str × NameKind)) (acc : List (Str × Addr)), (x, NameKind.free) ∈ names → (∃ c, env.cells.lookup x = some c) → ∃ c, (closL env names acc).lookup x = some c
  | (n, k) :: r, acc, hm, ⟨c, e⟩ => by
    rcases List.mem_cons.mp hm with q | q
    · cases q
      refine closL_acc r _ ⟨c, ?_⟩
      simp only [beq_self_eq_true, if_true, e, List.lookup_cons]
    · exact closL_has r _ q ⟨c, e⟩
structure CompOk (N : List Str) (js : List Nat) (scope osc : Scope) : Prop where
  kind : scope.kind = .function
  nocell : ∀ y ∈ scope.names, y.2 ≠ .cell
  loc : ∀ y ∈ scope.names, y.2 = .local → scope.names.lookup y.1 = some .local
  own : ∀ p ∈ N.zipIdx, scope.names.lookup p.1 = some .local → p.2 ∈ js
  free : ∀ y ∈ scope.names, y.2 = .free → osc.names.lookup y.1 = some .cell ∨ osc.names.lookup y.1 = some .free
theorem lookup_relabel {env : Env} : ∀ {names : List (Str × NameKind)} {x : Str} {k' : NameKind},
    (names.map fun (n, k) => if (k == NameKind.free && env.scope.kind == .function && env.kindOf n == some .cell) then (n, NameKind.cell) else (n, k)).lookup x = some k' →
    ∃ k, names.lookup x = some k ∧ (k' = k ∨ (k = .free ∧ k' = .cell))
  | [], _, _, h => by simp at h
  | (n, k) :: r, x, k', h => by
    have ih := @lookup_relabel env r x k'
    have h : List.lookup x ((if (k == NameKind.free && env.scope.kind == .function && env.kindOf n == some .cell) = true then (n, NameKind.cell) else (n, k)) :: (r.map fun (n, k) => if (k == NameKind.free && env.scope.kind == .function && env.kindOf n == some .cell) then (n, NameKind.cell) else (n, k))) = some k' := h
    by_cases hc : (k == NameKind.free && env.scope.kind == .function && env.kindOf n == some .cell) = true
    · rw [if_pos hc] at h
      have hk : k = .free := by
        simp only [Bool.and_eq_true] at hc
        simpa using hc.1.1
      cases hx : x == n with
      | true =>
        simp only [List.lookup_cons, hx] at h
        cases h
        exact ⟨k, by simp [List.lookup_cons, hx], .inr ⟨hk, rfl⟩⟩
      | false =>
        simp only [List.lookup_cons, hx] at h
        obtain ⟨k2, e, r2⟩ := ih h
        exact ⟨k2, by simp only [List.lookup_cons, hx]; exact e, r2⟩
    · rw [if_neg hc] at h
      cases hx : x == n with
      | true =>
        simp only [List.lookup_cons, hx] at h
        cases h
        exact ⟨k, by simp [List.lookup_cons, hx], .inl rfl⟩
      | false =>
        simp only [List.lookup_cons, hx] at h
        obtain ⟨k2, e, r2⟩ := ih h
        exact ⟨k2, by simp only [List.lookup_cons, hx]; exact e, r2⟩
abbrev Cx.comp (X : Cx) (scope : Scope) (cl : List (Str × Addr)) (s₀ : Shared) (H₀ : Hp) (fp : List Addr) (pins : List (Addr × Obj)) : Cx :=
  { X with s₀ := s₀, H₀ := H₀, env := compEnvC scope cl s₀.heap.objs.size X.env, outer := X.stack, stack := X.stack, ex := fp, fn := fun _ => false, pn := X.pn ++ pins, xe := fun _ _ => False }
section
variable {X : Cx} {pins : List (Addr × Obj)} {σ : St} {H : Hp} {s : Shared} {scope : Scope} {js : List Nat} {fp : List Addr}
theorem comp_kinds (ok : CompOk X.N js scope X.env.scope) {x : Str} (hx : (relabel scope X.env).names.lookup x = some .cell ∨ (relabel scope X.env).names.lookup x = some .free) :
    scope.names.lookup x = some .free ∧ (x, NameKind.free) ∈ scope.names ∧ (X.env.kindOf x = some .cell ∨ X.env.kindOf x = some .free) := by
  have k : ∃ k', (relabel scope X.env).names.lookup x = some k' ∧ (k' = .cell ∨ k' = .free) := by
    rcases hx with h | h
    · exact ⟨_, h, .inl rfl⟩
    · exact ⟨_, h, .inr rfl⟩
  obtain ⟨k', h, hk⟩ := k
  obtain ⟨k, e, r⟩ := lookup_relabel h
  have hf : k = .free := by
    rcases r with r | r
    · subst r
      rcases hk with z | z
      · exact absurd z (ok.nocell _ (PySem.mem_of_lookup e))
      · exact z
    · exact r.1
  subst hf
  exact ⟨e, PySem.mem_of_lookup e, ok.free _ (PySem.mem_of_lookup e) rfl⟩
theorem Inv.comp (I : Inv X pins σ H s) (ok : CompOk X.N js scope X.env.scope) (hf : ∀ b ∈ fp, FpOk X pins H b) {h₁ : Heap} {m₁ : Str → Option Value} {tk : Nat}
    (hfs : ∀ b ∈ fp, b < s.heap.objs.size) (hn : h₁.Ns s.heap.objs.size m₁) (hk : ∀ b o, s.heap.get? b = some o → h₁.get? b = some o) (hm : ∀ x, m₁ x = none) :
    Inv (X.comp scope (closL X.env scope.names []) s H fp pins) [] (clr js σ) H { s with heap := h₁, toks := tk } := by
  have has : ∀ x, (x, NameKind.free) ∈ scope.names → ∃ c, X.env.cells.lookup x = some c := fun x hx => I.ok.has x (ok.free _ hx rfl)
  have sub : ∀ x c, (closL X.env scope.names []).lookup x = some c → X.env.cells.lookup x = some c := fun x c e => closL_sub _ _ (by simp) e
  have stk := I.stkSub
  have hlt := I.lt
  refine ⟨⟨I.mod, ok.kind, I.ok.glob, I.ok.blt, Nat.le_refl _, fun x y c e1 e2 => I.ok.inj x y c (sub _ _ e1) (sub _ _ e2), fun x hx => ?_, fun x c z => absurd z (by simp), I.ok.hd, I.ok.frames, .inl rfl, fun b hb => ⟨Nat.ne_of_lt (hfs b hb), fun x c e => (hf b hb).2.2.2.2.1 x c (sub _ _ e)⟩,
    fun b o e => I.bs b o e, Nat.le_trans I.ok.bsz I.sz, fun b o e hb => ?_, fun b hb z => ?_, I.stack, fun b hb => I.stkFree b hb⟩, rfl, I.bare, Un.kept hk, ⟨m₁, hn, fun i x v e1 e2 e3 => ?_⟩, fun x c e => ?_, I.hok.fresh (Nat.le_refl _), fun x c e => I.freeC x c (sub _ _ e), fun p hp => ?_, I.hok.kept hk, ?_⟩
  · obtain ⟨h1, h2, h3⟩ := comp_kinds ok hx
    exact closL_has _ _ h2 (has x h2)
  · have q := (hf b hb).2.2.2.1
    rcases q with q | q
    · exact I.ok.noex b o e q
    · exact absurd (Heap.lt_size e) (Nat.not_lt.mpr (Nat.le_trans I.ok.bsz q))
  · rcases List.mem_cons.mp (stk b z) with q | q
    · exact (hf b hb).2.1 q
    · exact (hf b hb).2.2.1 q
  · obtain ⟨c1, c2⟩ := clr_some e2
    have e3 : (relabel scope X.env).names.lookup x = some .local ∨ (relabel scope X.env).names.lookup x = some .cell ∨ (relabel scope X.env).names.lookup x = some .free := e3
    rcases e3 with e3 | e3
    · obtain ⟨k, ek, r⟩ := lookup_relabel e3
      have : k = .local := by
        rcases r with r | ⟨_, r⟩
        · exact r.symm
        · cases r
      subst this
      exact absurd (ok.own (x, i) (by rw [List.mem_zipIdx_iff_getElem?]; exact e1) ek) c2
    · obtain ⟨h1, h2, h3⟩ := comp_kinds ok e3
      obtain ⟨m, hm0, hl⟩ := I.loc
      obtain ⟨u, ru, lu⟩ := hl i x v e1 c1 (.inr h3)
      refine ⟨u, ru, .inr ⟨e3, ?_⟩⟩
      rcases lu with ⟨q, _⟩ | ⟨_, c, q1, q2⟩
      · rcases h3 with z | z <;> (rw [z] at q; cases q)
      · obtain ⟨c', ec⟩ := closL_has _ [] h2 (has x h2)
        have := sub _ _ ec
        rw [q1] at this
        cases this
        exact ⟨c, ec, q2.keeps hk⟩
  · obtain ⟨v, q⟩ := I.cell x c (sub _ _ e)
    exact ⟨v, q.keeps hk⟩
  · rw [List.append_nil] at hp
    obtain ⟨h1, h2, h3, h4, h5⟩ := I.pin p hp
    refine ⟨hk _ _ h1, h2, Nat.ne_of_lt (Heap.lt_size h1), fun z => ?_, h5⟩
    rcases List.mem_cons.mp (stk _ z) with q | q
    · exact h3 q
    · exact h4 q
  · rw [clr_len]; exact I.len
theorem HOk.off {P : Program} {w : World} {H : Hp} {h h' : Heap} {C : Addr} (x : HOk P w H h) (hn : H C = none) (k : ∀ b o, b ≠ C → h.get? b = some o → h'.get? b = some o) : HOk P w H h' := fun a o e =>
  (x a o e).stay (fun b u hb q => k b u (by
    rintro rfl
    rcases hb with z | z
    · rw [z, e] at hn; cases hn
    · rw [z] at hn; cases hn) q) (fun _ q => q) fun _ _ q => q
theorem Inv.uncomp (I : Inv X pins σ H s) {σ' : St} {H' : Hp} {s' : Shared} {cl : List (Str × Addr)} (hf : ∀ b ∈ fp, FpOk X pins H b) (J : Inv (X.comp scope cl s H fp pins) [] σ' H' s') {h' : Heap}
    (hk : ∀ b o, b ≠ s.heap.objs.size → s'.heap.get? b = some o → h'.get? b = some o) : Inv X pins σ H' { s' with heap := h' } := by
  have nC : H' s.heap.objs.size = none := J.free
  have nb : ∀ b o, s.heap.get? b = some o → b ≠ s.heap.objs.size := fun b o e => Nat.ne_of_lt (Heap.lt_size e)
  have u := J.base
  refine I.call' (ch := fp) J.os ⟨fun b o e n h1 h2 => hk b o (nb b o e) (u.keep b o e n h1 h2), fun b o e n h1 h2 => ?_, u.free, fun b o e h2 => ?_, u.tups, u.frzs, u.tbls⟩ (J.hok.off nC hk) J.bare fun b hb => ⟨(hf b hb).2.2.2.1, (hf b hb).2.1, (hf b hb).2.2.2.2.1, (hf b hb).2.2.2.2.2⟩
  · obtain ⟨sl, q⟩ := u.slot b o e n h1 h2
    exact ⟨sl, hk _ _ (nb b o e) q⟩
  · obtain ⟨o', q⟩ := u.there b o e h2
    exact ⟨o', hk _ _ (nb b o e) q⟩
end
def PIfs (X : Cx) (ifs : List Expr) (t : TT) : Prop :=
  ∀ (pins : List (Addr × Obj)) (s : Shared) (σ : St) (H : Hp) (Q : Bool → Hp → Prop), Inv X pins σ H s → t σ H Q →
    wpAny (model X.prog X.w) X.A (forIn ifs true fun c r => if r = true then do let ok ← isTrue c X.env (eval c X.env); pure (ForInStep.yield ok) else pure (ForInStep.yield r)) (TP X pins σ Q) X.xe s
def tYes : TT := fun _ H Q => Q true H
theorem pifs_nil {X : Cx} : PIfs X [] tYes := fun pins s σ H Q I h => wpAny_tests_nil ⟨H, I, h⟩
theorem pifs_one {X : Cx} {c : Expr} {t : TT} (h : PT X c t) : PIfs X [c] t := fun pins s σ H Q I q => wpAny_tests_one (h pins s σ H Q I q)
def tComp (wi : TI) (js : List Nat) (g : TG) (tc : TT) (te : TE) : TE := fun σ H Q => wi σ H fun J H1 => ∀ D, H1 D = none → ∃ W : Nat → Nat → List V → St → Hp → Prop,
  (∃ m, W 0 m [] (clr js σ) (upd H1 D (.lst []))) ∧ ∀ i m ys σ' H', W i m ys σ' H' →
    (J.stop i H' ∧ Q (.ref D) H') ∨ (J.go i H' ∧ ∃ N : List V → St → Hp → Prop, (∀ ys' σ3 H3, N ys' σ3 H3 → ∃ m', m' < m ∧ W (i + 1) m' ys' σ3 H3) ∧ ∀ x H2, J.yld i H' x H2 → g x σ' H2 fun σ3 H3 => tc σ3 H3 fun b H4 =>
      if b = true then te σ3 H4 fun v H5 => H5 D = some (.lst ys) ∧ ys.length < sizeLine ∧ N (ys ++ [v]) σ3 (upd H5 D (.lst (ys ++ [v])))
      else N ys σ3 H4)
section
variable {X : Cx} {tg iter elt : Expr} {ifs : List Expr} {scope : Scope} {pos : Pos} {js : List Nat} {wi : TI} {g : TG} {tc : TT} {te : TE}
theorem comp_core (hc : X.calm = true) (ok : CompOk X.N js scope X.env.scope) (hi : PI X tg iter wi)
    (hg : ∀ cl s₀ H₀ fp pn, PG (X.comp scope cl s₀ H₀ fp pn) tg g) (hif : ∀ cl s₀ H₀ fp pn, PIfs (X.comp scope cl s₀ H₀ fp pn) ifs tc) (he : ∀ cl s₀ H₀ fp pn, PE (X.comp scope cl s₀ H₀ fp pn) elt te)
    (hs : ∀ x, foldedSetIterable iter X.env x = pure x) {pins : List (Addr × Obj)} {s : Shared} {σ : St} {H : Hp} {Q : VK} (I : Inv X pins σ H s) (h : tComp wi js g tc te σ H Q) {p : Pos} {use : Option (Value → Sem Unit)} {Q' : Value → Shared → Prop}
    (fin : ∀ (D C : Addr) (s' : Shared) (H' : Hp), (∀ h', (∀ b o, b ≠ C → s'.heap.get? b = some o → h'.get? b = some o) → Inv X pins σ H' { s' with heap := h' }) → Q (.ref D) H' → (∃ m, s'.heap.Ns C m) → H' C = none → C ≠ X.env.locals → X.s₀.heap.objs.size ≤ C → (∀ x c, X.env.cells.lookup x = some c → c ≠ C) → (∀ p ∈ X.pn ++ pins, p.1 ≠ C) →
      compPost (model X.prog X.w) X.A X.xe use Q' (.ref D) C (.ok .next) s') :
    wpAny (model X.prog X.w) X.A (comprehension (.ListComp elt [⟨tg, iter, ifs, 0⟩] scope pos) scope X.env p (newList []) false (eval iter X.env) use) Q' X.xe s := by
  have hclos : closureFor scope X.env = pure (closL X.env scope.names []) := closureFor_eq fun y hy hk => I.ok.has y.1 (ok.free y hy hk)
  refine wpAny_comprehension_free rfl hs hclos ok.kind ok.loc (thn (hi pins s σ H _ I h) fun v s1 h1 => thn h1 fun itv s2 h2 => ?_)
  obtain ⟨it, fp, tn, J, H2, e, I2, T, st2, f2, hW⟩ := h2
  subst e
  have hD2 : H2 s2.heap.objs.size = none := I2.fresh
  obtain ⟨W, ⟨m0, w0⟩, turn⟩ := hW _ hD2
  refine wpAny_newObj_type ?_
  have I3 : Inv X pins σ (upd H2 s2.heap.objs.size (.lst [])) { s2 with heap := s2.heap.push { cls := .type "list", dict := none, data := .seq ([] : List Value).toArray } } :=
    I2.lnew (its := []) (t' := s2.toks) .nil (Nat.zero_le _)
  generalize hs3 : ({ s2 with heap := s2.heap.push { cls := .type "list", dict := none, data := .seq ([] : List Value).toArray } } : Shared) = s3 at I3 ⊢
  have keep3 : ∀ b o, s2.heap.get? b = some o → s3.heap.get? b = some o := fun b o e => by rw [← hs3]; exact Heap.get?_push_of_some _ e
  have hfp2 : ∀ b ∈ fp, b < s2.heap.objs.size := fun b hb => by
    obtain ⟨o, e, _⟩ := T.obj _ _ st2 b hb
    exact Heap.lt_size e
  have hsz3 : s3.heap.objs.size = s2.heap.objs.size + 1 := by rw [← hs3]; exact Heap.size_push _ _
  have f3 : ∀ b ∈ fp, FpOk X pins (upd H2 s2.heap.objs.size (.lst [])) b := fun b hb => ⟨by rw [upd_ne (Nat.ne_of_lt (hfp2 b hb))]; exact (f2 b hb).1, (f2 b hb).2⟩
  refine wpAny_newFunctionEnv ok.nocell (by intro y hy; simp at hy) (fun h₁ hns₁ hsb₁ => ?_) ok.kind
  have old : ∀ b o, s3.heap.get? b = some o → h₁.get? b = some o := fun b o e => hsb₁.extBut b o (Nat.ne_of_lt (Heap.lt_size e)) (Heap.get?_push_of_some _ e)
  have I4 : Inv (X.comp scope (closL X.env scope.names []) s3 (upd H2 s2.heap.objs.size (.lst [])) fp pins) [] (clr js σ) (upd H2 s2.heap.objs.size (.lst [])) { s3 with heap := h₁, toks := s3.toks + ([] : List (Str × Value)).length } :=
    I3.comp ok f3 (fun b hb => by rw [hsz3]; exact Nat.lt_succ_of_lt (hfp2 b hb)) hns₁ old (fun x => rfl)
  have st4 : tn 0 h₁ := T.keep _ _ _ st2 fun b hb o e => old _ _ (keep3 _ _ e)
  have hC : (newEnv scope s3.heap.objs.size X.env.globals (closL X.env scope.names []) X.env.qual none .none (some X.env) builtinsNs).locals = s3.heap.objs.size := rfl
  have stat : ∀ {H' : Hp}, (∀ b ∈ fp, H' b = none) → ∀ b ∈ fp, FpOk (X.comp scope (closL X.env scope.names []) s3 (upd H2 s2.heap.objs.size (.lst [])) fp pins) [] H' b := fun {H'} hn b hb => by
    refine ⟨hn b hb, ?_, fun z => ?_, .inl hb, fun x c e => ?_, fun p hp => ?_⟩
    · show b ≠ s3.heap.objs.size
      exact Nat.ne_of_lt (by rw [hsz3]; exact Nat.lt_succ_of_lt (hfp2 b hb))
    · rcases List.mem_cons.mp (I3.stkSub b z) with q | q
      · exact (f2 b hb).2.1 q
      · exact (f2 b hb).2.2.1 q
    · exact (f2 b hb).2.2.2.2.1 x c (closL_sub _ _ (by simp) e)
    · exact (f2 b hb).2.2.2.2.2 p (by simpa using hp)
  have loop : ∀ s₄ : Shared, s₄ = { s3 with heap := h₁, toks := s3.toks + ([] : List (Str × Value)).length } →
      codeAny (model X.prog X.w) X.A (.compLoop (.ListComp elt [⟨tg, iter, ifs, 0⟩] scope pos) 0 (.ref it) (.ref s2.heap.objs.size) (compEnvC scope (closL X.env scope.names []) s3.heap.objs.size X.env))
        (compPost (model X.prog X.w) X.A X.xe use Q' (.ref s2.heap.objs.size) s3.heap.objs.size) s₄ := by
    intro s₄ e₄
    subst e₄
    refine compLoop_own (fun n s' => ∃ i ys σ' H', Inv (X.comp scope (closL X.env scope.names []) s3 (upd H2 s2.heap.objs.size (.lst [])) fp pins) [] σ' H' s' ∧ tn i s'.heap ∧ (∀ b ∈ fp, H' b = none) ∧ W i n ys σ' H') ?_ m0
      ⟨0, [], clr js σ, _, I4, st4, fun b hb => (f3 b hb).1, w0⟩
    rintro n s5 ⟨i, ys, σ5, H5, I5, st5, fr5, w5⟩
    rcases turn i n ys σ5 H5 w5 with ⟨stop, qn⟩ | ⟨go, N, hN, step⟩
    · refine thn (T.done (X.comp scope (closL X.env scope.names []) s3 (upd H2 s2.heap.objs.size (.lst [])) fp pins) rfl rfl rfl hc i [] s5 σ5 H5 _ I5 (stat fr5) st5 stop) fun r s6 ⟨hr, I6⟩ => ?_
      subst hr
      obtain ⟨m6, hm6, _⟩ := id I6.loc
      refine fin _ _ s6 H5 (fun h' hk => I3.uncomp f3 I6 hk) qn ⟨m6, hm6⟩ I6.free (Nat.ne_of_gt (Nat.lt_of_lt_of_le I3.lt (Nat.le_refl _))) I3.sz (fun x c e => ?_) (fun p hp => Nat.ne_of_lt (Heap.lt_size (I3.pin p hp).1))
      obtain ⟨v, o, q, _⟩ := I3.cell x c e
      exact Nat.ne_of_lt (Heap.lt_size q)
    · refine thn (T.item (X.comp scope (closL X.env scope.names []) s3 (upd H2 s2.heap.objs.size (.lst [])) fp pins) rfl rfl rfl hc i [] s5 σ5 H5 _ I5 (stat fr5) st5 go) fun r s6 ⟨u, hr, h6⟩ => ?_
      subst hr
      refine thn h6 fun _ s7 ⟨x, H7, I7, r7, y7, st7, fr7⟩ => ?_
      have I7' := I7.pinned (stat fr7) (T.obj _ _ st7)
      refine thn (hg _ _ _ _ _ _ s7 σ5 H7 x u _ I7' r7 (step x H7 y7)) fun _ s8 ⟨σ8, H8, I8, q8⟩ => ?_
      refine thn (hif _ _ _ _ _ _ s8 σ8 H8 _ I8 q8) fun b s9 ⟨H9, I9, q9⟩ => ?_
      have again : ∀ {σ' : St} {H' : Hp} {s' : Shared} {ys' : List V}, Inv (X.comp scope (closL X.env scope.names []) s3 (upd H2 s2.heap.objs.size (.lst [])) fp pins) ([] ++ pinsAt fp s7.heap) σ' H' s' → N ys' σ' H' →
          ∃ m, m < n ∧ ∃ i ys σ' H', Inv (X.comp scope (closL X.env scope.names []) s3 (upd H2 s2.heap.objs.size (.lst [])) fp pins) [] σ' H' s' ∧ tn i s'.heap ∧ (∀ b ∈ fp, H' b = none) ∧ W i m ys σ' H' := fun {σ' H' s' ys'} I' n' => by
        obtain ⟨m', hm, w'⟩ := hN _ _ _ n'
        refine ⟨m', hm, i + 1, ys', σ', H', I'.unpinned, T.keep _ _ _ st7 fun b hb o e => (I'.pin (b, o) (List.mem_append_right _ (List.mem_append_right _ (mem_pinsAt hb e)))).1, fun b hb => ?_, w'⟩
        obtain ⟨o, e, d⟩ := T.obj _ _ st7 b hb
        exact (I'.pin (b, o) (List.mem_append_right _ (List.mem_append_right _ (mem_pinsAt hb e)))).2.1
      cases b with
      | false => exact again I9 q9
      | true =>
        refine thn (he _ _ _ _ _ _ s9 σ8 H9 _ I9 q9) fun u' sa ⟨v, Ha, Ia, ra, ea, za, qa⟩ => ?_
        refine thn (mt_append (X := X.comp scope (closL X.env scope.names []) s3 (upd H2 s2.heap.objs.size (.lst [])) fp pins) _ sa σ8 Ha (.ref s2.heap.objs.size) [v] (.ref s2.heap.objs.size) [u'] (fun _ H' => H' = upd Ha s2.heap.objs.size (.lst (ys ++ [v]))) Ia rfl (.cons ra .nil) ⟨_, ys, v, rfl, rfl, ea, za, rfl⟩) fun _ sb ⟨_, Hb, Ib, _, eb⟩ => ?_
        subst eb
        exact again Ib qa
  exact codeAny_compStart_list (loop _ rfl) (T.self _ 0 _ _ _ st4 (loop _ rfl))
theorem pe_comp (hc : X.calm = true) (ok : CompOk X.N js scope X.env.scope) (hi : PI X tg iter wi)
    (hg : ∀ cl s₀ H₀ fp pn, PG (X.comp scope cl s₀ H₀ fp pn) tg g) (hif : ∀ cl s₀ H₀ fp pn, PIfs (X.comp scope cl s₀ H₀ fp pn) ifs tc) (he : ∀ cl s₀ H₀ fp pn, PE (X.comp scope cl s₀ H₀ fp pn) elt te)
    (hs : ∀ x, foldedSetIterable iter X.env x = pure x := by intro _; rfl) : PE X (.ListComp elt [⟨tg, iter, ifs, 0⟩] scope pos) (tComp wi js g tc te) := by
  intro pins s σ H Q I h
  rw [eval_ListComp]
  refine comp_core hc ok hi hg hif he hs I h ?_
  intro D C s' H' hI q hm hn h1 h2 h3 h4
  obtain ⟨m, hm⟩ := hm
  exact ⟨m, hm, fun h' hs' => ⟨.ref D, H', hI h' fun b o hb e => hs'.extBut b o hb e, rfl, q⟩⟩
theorem ps_setC {i : Nat} {y : Str} {py spos : Pos} (hc : X.calm = true) (hN : X.N.Nodup) (hy : X.N[i]? = some y) (hx : Loc X.env.scope y) (ok : CompOk X.N js scope X.env.scope) (hi : PI X tg iter wi)
    (hg : ∀ cl s₀ H₀ fp pn, PG (X.comp scope cl s₀ H₀ fp pn) tg g) (hif : ∀ cl s₀ H₀ fp pn, PIfs (X.comp scope cl s₀ H₀ fp pn) ifs tc) (he : ∀ cl s₀ H₀ fp pn, PE (X.comp scope cl s₀ H₀ fp pn) elt te)
    (hsw : swapsWith (.ListComp elt [⟨tg, iter, ifs, 0⟩] scope pos) (some (.Name y py)) spos.line X.env = pure true := by rfl)
    (hf : X.fn y = true ∨ X.env.scope.names.lookup y = some .local := by first | exact .inl rfl | exact .inr rfl | assumption)
    (hs : ∀ x, foldedSetIterable iter X.env x = pure x := by intro _; rfl) : PS X (.Assign [.Name y py] (.ListComp elt [⟨tg, iter, ifs, 0⟩] scope pos) spos) (tAsg (tComp wi js g tc te) (gName i)) := by
  intro pins s σ H D I h
  rw [exec_Assign_Name_used _ _ _ _ hsw]
  refine wpAny_bind (wpAny_standAt (wpAny_bind ?_))
  show wpAny _ X.A (do let _ ← comprehension (.ListComp elt [⟨tg, iter, ifs, 0⟩] scope pos) scope X.env _ (newList []) false (eval iter X.env) (some (assign (.Name y py) X.env))) _ _ s
  refine wpAny_bind (wpAny_mono (comp_core (use := some (assign (.Name y py) X.env)) (Q' := fun _ s' => SP X pins D .next s') hc ok hi hg hif he hs I h ?_) (fun _ s' hq => wpAny_pure (wpAny_pure hq)) fun _ _ e => e)
  intro Dl C s' H' hI q hm hn h1 h2 h3 h4
  obtain ⟨m, hm⟩ := hm
  have I' : Inv X pins σ H' s' := hI s'.heap fun b o _ e => e
  refine wpAny_assign_Name (store_ok2 I' hN hy hx (v := .ref Dl) (u := .ref Dl) rfl (fun s2 I2 hsb => ?_) hf)
  obtain ⟨a, sb, ha⟩ := hsb
  have hne : C ≠ a := by
    rcases ha with rfl | ha
    · exact h1
    · exact (h3 _ _ ha).symm
  refine ⟨m, hm.sameBut sb hne, fun h' hs' => ⟨_, H', ?_, q⟩⟩
  exact I2.turned (t' := s2.toks) (it := C) (fun b o hb e => hs'.extBut b o hb e) hn h1 (.inr h2) h3 h4
end
end L2
end
section
set_option Elab.async false
set_option linter.all false
set_option maxRecDepth 100000
namespace L2
open PySem PySem.Spec PyProof.Rows
mutual
inductive Dt (K : PySem.W.Frag) (H : Hp) : V → PyData → Prop
  | non : Dt K H .non .none
  | bl (b) : Dt K H (.bl b) (.bool b)
  | int (i) : Dt K H (.int i) (.int i)
  | str (x) : Dt K H (.str x) (.str x)
  | lst {a xs ds} : SqL K H a xs → Dts K H xs ds → Dt K H (.ref a) (.list ds)
  | tup {a xs ds} : SqT K H a xs → Dts K H xs ds → Dt K H (.ref a) (.tuple ds)
inductive Dts (K : PySem.W.Frag) (H : Hp) : List V → List PyData → Prop
  | nil : Dts K H [] []
  | cons {x xs d ds} : Dt K H x d → Dts K H xs ds → Dts K H (x :: xs) (d :: ds)
end
theorem SqL.same {K : PySem.W.Frag} {H H' : Hp} {a : Addr} {xs : List V} (e : Same H H') (h : SqL K H a xs) : SqL K H' a xs := e.seq h
theorem SqT.same {K : PySem.W.Frag} {H H' : Hp} {a : Addr} {xs : List V} (e : Same H H') (h : SqT K H a xs) : SqT K H' a xs := by
  rcases h with (h | ⟨o, h⟩) | h
  · exact .inl (.inl (e _ _ h))
  · exact .inl (.inr ⟨o, e _ _ h⟩)
  · exact .inr h
mutual
theorem Dt.same {K : PySem.W.Frag} {H H' : Hp} (e : Same H H') : ∀ {v : V} {d : PyData}, Dt K H v d → Dt K H' v d
  | _, _, .non => .non
  | _, _, .bl b => .bl b
  | _, _, .int i => .int i
  | _, _, .str x => .str x
  | _, _, .lst h t => .lst (h.same e) (Dts.same e t)
  | _, _, .tup h t => .tup (h.same e) (Dts.same e t)
theorem Dts.same {K : PySem.W.Frag} {H H' : Hp} (e : Same H H') : ∀ {v : List V} {d : List PyData}, Dts K H v d → Dts K H' v d
  | _, _, .nil => .nil
  | _, _, .cons h t => .cons (Dt.same e h) (Dts.same e t)
end
theorem Dts.length {K : PySem.W.Frag} {H : Hp} : ∀ {v : List V} {d : List PyData}, Dts K H v d → v.length = d.length
  | _, _, .nil => rfl
  | _, _, .cons h t => by rw [List.length_cons, List.length_cons, Dts.length t]
theorem Dts.append {K : PySem.W.Frag} {H : Hp} : ∀ {v w : List V} {d e : List PyData}, Dts K H v d → Dts K H w e → Dts K H (v ++ w) (d ++ e)
  | _, _, _, _, .nil, s => s
  | _, _, _, _, .cons h t, s => .cons h (Dts.append t s)
theorem Dts.get {K : PySem.W.Frag} {H : Hp} : ∀ {v : List V} {d : List PyData} {i : Nat} {x : V}, Dts K H v d → v[i]? = some x → ∃ e, d[i]? = some e ∧ Dt K H x e
  | _, _, _, _, .nil, e => by simp at e
  | _, _, 0, _, .cons h t, e => by simp at e; subst e; exact ⟨_, rfl, h⟩
  | _, _, i + 1, _, .cons h t, e => by simpa using Dts.get (i := i) t (by simpa using e)
theorem Dts.get' {K : PySem.W.Frag} {H : Hp} : ∀ {v : List V} {d : List PyData} {i : Nat} {e : PyData}, Dts K H v d → d[i]? = some e → ∃ x, v[i]? = some x ∧ Dt K H x e
  | _, _, _, _, .nil, e => by simp at e
  | _, _, 0, _, .cons h t, e => by simp at e; subst e; exact ⟨_, rfl, h⟩
  | _, _, i + 1, _, .cons h t, e => by simpa using Dts.get' (i := i) t (by simpa using e)
theorem Dts.take {K : PySem.W.Frag} {H : Hp} : ∀ {v : List V} {d : List PyData} (n : Nat), Dts K H v d → Dts K H (v.take n) (d.take n)
  | _, _, 0, _ => .nil
  | _, _, _ + 1, .nil => .nil
  | _, _, n + 1, .cons h t => .cons h (Dts.take n t)
theorem Dts.drop {K : PySem.W.Frag} {H : Hp} : ∀ {v : List V} {d : List PyData} (n : Nat), Dts K H v d → Dts K H (v.drop n) (d.drop n)
  | _, _, 0, r => r
  | _, _, _ + 1, .nil => .nil
  | _, _, n + 1, .cons h t => Dts.drop n t
theorem Dts.ints {K : PySem.W.Frag} {H : Hp} : ∀ (ns : List Int), Dts K H (ns.map V.int) (ns.map PyData.int)
  | [] => .nil
  | n :: r => .cons (.int n) (Dts.ints r)
theorem Dts.strs {K : PySem.W.Frag} {H : Hp} : ∀ (ns : List Str), Dts K H (ns.map V.str) (ns.map PyData.str)
  | [] => .nil
  | n :: r => .cons (.str n) (Dts.strs r)
section
variable {X : Cx} {pins : List (Addr × Obj)} {σ : St} {H : Hp} {s : Shared}
mutual
theorem Inv.reads (I : Inv X pins σ H s) : ∀ {v : V} {d : PyData} {u : Value}, Dt X.K H v d → RelV v u → ∃ as, Reads s.heap u d as
  | _, _, _, .non, r => by cases r; exact ⟨_, .none⟩
  | _, _, _, .bl b, r => by cases r; exact ⟨_, .bool b⟩
  | _, _, _, .int i, r => by obtain ⟨t, rfl⟩ := r; exact ⟨_, .int i t⟩
  | _, _, _, .str x, r => by obtain ⟨t, rfl⟩ := r; exact ⟨_, .str x t⟩
  | _, _, _, .lst h t, r => by
    cases r
    obtain ⟨its, rv, p, hz⟩ := I.list h
    obtain ⟨o, ho, hc, n, hd⟩ := p.isList
    obtain ⟨as, ra⟩ := I.readsAll t rv
    exact ⟨_, .list ho hc hd (by simpa using ra)⟩
  | _, _, _, .tup h t, r => by
    cases r
    obtain ⟨its, rv, p, hz⟩ := I.tuple h
    obtain ⟨o, ho, hc, n, hd⟩ := p
    obtain ⟨as, ra⟩ := I.readsAll t rv
    exact ⟨_, .tuple ho hc hd (by simpa using ra)⟩
theorem Inv.readsAll (I : Inv X pins σ H s) : ∀ {v : List V} {d : List PyData} {u : List Value}, Dts X.K H v d → Vals v u → ∃ as, ReadsAll s.heap u d as
  | _, _, _, .nil, .nil => ⟨_, .nil⟩
  | _, _, _, .cons h t, .cons r rs => by
    obtain ⟨as, a⟩ := I.reads h r
    obtain ⟨bs, b⟩ := I.readsAll t rs
    exact ⟨_, .cons a b⟩
end
theorem call_repr (hg : X.A.guards = some []) (hu : X.A.units + 64 < cLine) : CallR X (.builtin "repr") (fun xs H Q => ∃ a d, xs = [.ref a] ∧ Dt X.K H (.ref a) d ∧ d.layable0 = true ∧ d.intsShort 13 = true ∧ d.showable = true ∧ d.hasDict = false ∧ d.depth ≤ 60 ∧ Q (.str d.shown) H) := by
  intro pins s σ H xs us Q I r h
  obtain ⟨a, d, rfl, hd, h1, h2, h3, h4, h5, q⟩ := h
  obtain ⟨u, rfl, rx⟩ := vals1 r
  obtain ⟨as, ra⟩ := I.reads hd rx
  cases rx
  refine repr_of_reads' ra h3 (by rw [h4]; simp) hg (by omega) (fun _ _ e => e) (fun h' u tk hk => ⟨.str d.shown, H, I.kept hk, ⟨_, rfl⟩, q⟩) ?_
  have := shown_le13 h1 h2
  exact Nat.le_trans this (by decide)
def rEqD (K : PySem.W.Frag) : R2 := fun x y H Q => ∃ d e, Dt K H x d ∧ Dt K H y e ∧ d.canLay0 = true ∧ e.canLay0 = true ∧ d.depth ≤ 60 ∧ Q (.bl (PyData.eqv d e)) H
def rNeD (K : PySem.W.Frag) : R2 := fun x y H Q => ∃ d e, Dt K H x d ∧ Dt K H y e ∧ d.canLay0 = true ∧ e.canLay0 = true ∧ d.depth ≤ 60 ∧ Q (.bl (!PyData.eqv d e)) H
theorem op_eqD (hu : X.A.units + 64 < cLine) : OpR X (compareOp .Eq) (rEqD X.K) := by
  intro pins s σ H x y v u Q I rx ry h
  obtain ⟨d, e, h1, h2, h3, h4, h5, q⟩ := h
  obtain ⟨as, ra⟩ := I.reads h1 rx
  obtain ⟨bs, rb⟩ := I.reads h2 ry
  exact PySem.SeqAt.compareEq_reads ra rb h3 h4 (by have : min d.depth e.depth ≤ d.depth := Nat.min_le_left _ _; omega) ⟨.bl _, H, I, rfl, q⟩
theorem op_neD (hu : X.A.units + 64 < cLine) : OpR X (compareOp .NotEq) (rNeD X.K) := by
  intro pins s σ H x y v u Q I rx ry h
  obtain ⟨d, e, h1, h2, h3, h4, h5, q⟩ := h
  obtain ⟨as, ra⟩ := I.reads h1 rx
  obtain ⟨bs, rb⟩ := I.reads h2 ry
  exact PySem.SeqAt.compareNe_reads ra rb h3 h4 (by have : min d.depth e.depth ≤ d.depth := Nat.min_le_left _ _; omega) ⟨.bl _, H, I, rfl, q⟩
end
end L2
end
section
set_option Elab.async false
set_option linter.all false
set_option maxRecDepth 100000
namespace L2
open PySem PySem.Spec PyProof.Rows
section
variable {X : Cx}
theorem all_getD (bs : List Bool) : ((List.range bs.length).all fun i => bs.getD i true) = bs.all id := by
  induction bs with
  | nil => rfl
  | cons b r ih =>
    rw [List.length_cons, List.range_succ_eq_map, List.all_cons, List.all_map, List.all_cons]
    show (b && _) = (b && _)
    rw [← ih]
    rfl
theorem call_all (hh : X.A.handled = none) : CallR X (.builtin "all") (fun xs H Q => ∃ (p : Addr) (bs : List Bool), xs = [.ref p] ∧ SqL X.K H p (bs.map V.bl) ∧ Q (.bl (bs.all id)) H) := by
  intro pins s σ H xs us Q I r h
  obtain ⟨p, bs, rfl, hq, q⟩ := h
  obtain ⟨u, rfl, rx⟩ := vals1 r
  cases rx
  obtain ⟨its, rv, pl, hz⟩ := I.list hq
  have hl := pl.isList
  have hlt : p < s.heap.objs.size := by obtain ⟨_, e, _⟩ := hl; exact Heap.lt_size e
  have len := rv.length
  rw [List.length_map] at len
  refine call_all_walk (wpAny_pyIter_list hl ?_)
  refine ⟨_, _, _, _, _, _, (fun i => bs.getD i true), rfl, Walks.list (A := X.A.in1) hh s.heap.objs.size p (Nat.ne_of_lt hlt) its.toArray, ⟨⟨_, Heap.get?_push_size _ rfl, rfl, rfl⟩, hl.push _⟩, ?_, ?_⟩
  · intro i v s' Q' E' hv hq'
    have hv : its[i]? = some v := by simpa using hv
    have hi : i < its.length := (List.getElem?_eq_some_iff.mp hv).1
    have hb : i < bs.length := by omega
    have e : (bs.map V.bl)[i]? = some (V.bl (bs[i])) := by simp [hb]
    obtain ⟨u, hu, ru⟩ := rv.get e
    rw [hv] at hu
    cases hu
    cases ru
    have : bs.getD i true = bs[i] := by simp [List.getD, hb]
    dsimp only at hq'
    rw [this] at hq'
    exact wpAny_truthy_bool hq'
  · intro h' tk hk
    have e : ((List.range its.toArray.size).all fun i => bs.getD i true) = bs.all id := by
      rw [List.size_toArray, ← len]
      exact all_getD bs
    rw [e]
    refine ⟨.bl _, H, I.kept (t' := tk) fun b o eb => hk b o (fun z => ?_) (Heap.get?_push_of_some _ eb), rfl, q⟩
    rw [List.mem_singleton] at z
    exact Nat.ne_of_lt (Heap.lt_size eb) z
def rCount : V → List V → Hp → VK → Prop := fun x vs H Q => ∃ l xs y, x = .ref l ∧ vs = [y] ∧ H l = some (.lst xs) ∧ flatV y = true ∧ xs.all flatV = true ∧ Q (.int (xs.countP fun z => eqV z y)) H
theorem count_eqU {x : V} : ∀ {xs : List V} {us : List Value}, Vals xs us → xs.all flatV = true → us.countP (eqU x) = xs.countP fun y => eqV y x
  | _, _, .nil, _ => rfl
  | _, _, .cons r t, h => by
    simp only [List.all_cons, Bool.and_eq_true] at h
    rw [List.countP_cons, List.countP_cons, count_eqU t h.2, eqU_of r h.1]
theorem mt_count : MtM X "list.count" rCount := by
  intro pins s σ H x vs v us Q I rx rv h
  obtain ⟨l, xs, y, rfl, rfl, hH, fy, fx, q⟩ := h
  cases rx
  obtain ⟨u, rfl, ru⟩ := rv.one
  obtain ⟨z, its, n, r, hl, e⟩ := I.lstM hH
  refine call_meets F.slot_list_count ⟨_, e, rfl⟩ F.entry_list_count (F.args_list_count_2 _ _) (SeqAt.list_countAt l its.toArray n none #[] u (eqU y)) ⟨e, fun w hw => mem_eqAt ru fy r fx w (by simpa using hw), ?_⟩
  refine ⟨.int _, H, I.tok _, ⟨_, rfl⟩, ?_⟩
  rw [show its.toArray.toList = its by simp, count_eqU r fx]
  exact q
def rInsert : V → List V → Hp → VK → Prop := fun x vs H Q => ∃ l xs i y, x = .ref l ∧ vs = [.int i, y] ∧ H l = some (.lst xs) ∧ 0 ≤ i ∧ i ≤ xs.length ∧ xs.length < sizeLine ∧ Q .non (upd H l (.lst (xs.take i.toNat ++ [y] ++ xs.drop i.toNat)))
theorem mt_insert : MtM X "list.insert" rInsert := by
  intro pins s σ H x vs v us Q I rx rv h
  obtain ⟨l, xs, i, y, rfl, rfl, hH, h0, h1, hz, q⟩ := h
  cases rx
  obtain ⟨u, v, rfl, ru, rw'⟩ := rv.two
  obtain ⟨t, rfl⟩ := ru
  obtain ⟨z, its, n, r, hl, e⟩ := I.lstM hH
  have sl : (sizeLine : Nat) < 2 ^ 63 := line63
  refine call_meets F.slot_list_insert ⟨_, e, rfl⟩ F.entry_list_insert (F.args_list_insert_3 _ _ _) (PySem.AutoListH.list_insert_list_int_val_1 l its.toArray n i t v ?_ (by rw [List.size_toArray]; omega)) ⟨e, ?_⟩
  · simp [Builtin.List.listFitsIndex]
    omega
  · refine ⟨.non, _, I.lset (its' := its.take i.toNat ++ [v] ++ its.drop i.toNat) hH e ?_ (((r.take _).append (.cons rw' .nil)).append (r.drop _)) ?_, rfl, q⟩
    · have hi : ¬ i < 0 := by omega
      simp only [hi, if_false, List.size_toArray]
      have : min i.toNat its.length = i.toNat := by omega
      rw [this]
      apply Array.ext'
      simp [List.take_of_length_le]
    · simp only [List.length_append, List.length_take, List.length_drop, List.length_singleton]
      omega
theorem strsAre_of {ns : List Str} : ∀ {us : List Value}, Vals (ns.map V.str) us → StrsAre us ns := by
  induction ns with
  | nil => intro us r; cases r; exact .nil
  | cons n r ih => intro us rv; cases rv with | cons q t => obtain ⟨k, rfl⟩ := q; exact .cons _ _ (ih t)
def rJoin (K : PySem.W.Frag) : V → List V → Hp → VK → Prop := fun x vs H Q => ∃ z l ys, x = .str z ∧ vs = [.ref l] ∧ SqL K H l (ys.map V.str) ∧ (ys.map (·.length)).sum + ys.length * z.length ≤ 16777216 ∧ Q (.str (Txt.join z ys)) H
theorem mt_join : MtM X "str.join" (rJoin X.K) := by
  intro pins s σ H x vs v us Q I rx rv h
  obtain ⟨z, l, ys, rfl, rfl, hq, hz, q⟩ := h
  obtain ⟨t, rfl⟩ := rx
  obtain ⟨u, rfl, ru⟩ := rv.one
  cases ru
  obtain ⟨its, r, pl, hl⟩ := I.list hq
  exact join_list pl.isList (by simpa using strsAre_of r) hz fun t' k => ⟨.str _, H, I.tok _, ⟨_, rfl⟩, q⟩
end
end L2
end
section
set_option Elab.async false
set_option linter.all false
set_option maxRecDepth 100000
namespace L2
open PySem PySem.Spec PyProof.Rows
def asc (z : Str) : Bool := z.cps.all (· < 128)
def Its (z : Str) : It := ⟨fun i _ => i < z.cps.size, fun i H x H' => H' = H ∧ ∃ c, z.cps[i]? = some c ∧ x = .str ⟨#[c]⟩, fun i _ => z.cps.size ≤ i⟩
theorem turn_str {P : Program} {w : World} {K : PySem.W.Frag} {tg : Expr} (z : Str) (t : Tok) (it : Addr) : Turn P w K tg (Its z) [it] it (fun i h => h.IsStrIter it "str_ascii_iterator" z t i) where
  mem := by simp
  obj := fun i h st b hb => by
    obtain rfl : b = it := by simpa using hb
    obtain ⟨o, e, c, d⟩ := st
    exact ⟨o, e, fun v q => by rw [d] at q; cases q⟩
  keep := fun i h h' st k => let ⟨o, e, r⟩ := st; ⟨o, k it (by simp) o e, r⟩
  item := by
    intro X hP hw hK hc i pins s σ H E I hf st hg
    subst hP hw hK
    have hg : i < z.cps.size := hg
    obtain ⟨f0, f1, f2, f3, f4, f5⟩ := hf it (by simp)
    refine wpAny_pyNext_ascii_item st (c := z.cps[i]) (by simp [hg]) fun h' st' sb => ?_
    have I1 : Inv X pins σ H { s with heap := h', toks := s.toks + 1 } := I.turned (fun b o hb e => (sb.2 b hb).trans e) f0 f1 f3 f4 f5
    obtain ⟨o, e, c, d⟩ := id st'
    exact ⟨_, rfl, go_of (s := { s with heap := h', toks := s.toks + 1 }) e c d (by decide) ⟨.str ⟨#[z.cps[i]]⟩, H, I1, ⟨_, rfl⟩, ⟨rfl, _, by simp [hg], rfl⟩, st', fun b hb => (hf b hb).1⟩⟩
  done := by
    intro X hP hw hK hc i pins s σ H E I hf st hg
    subst hP hw hK
    have hg : z.cps.size ≤ i := hg
    obtain ⟨f0, f1, f2, f3, f4, f5⟩ := hf it (by simp)
    exact wpAny_pyNext_ascii_end (I.ok.hd hc) st (by simp [hg]) fun h' eb => ⟨rfl, I.turned (t' := s.toks) (fun b o hb e => eb b o hb e) f0 f1 f3 f4 f5⟩
  self := fun _ _ _ _ _ st h => wpAny_pyIter_striter_ascii st h
section
variable {X : Cx} {tg : Expr}
def iStr (tl : TE) : TI := fun σ H R => tl σ H fun x H1 => ∃ z, x = .str z ∧ asc z = true ∧ R (Its z) H1
theorem pi_str {l : Expr} {tl : TE} (hl : PE X l tl) : PI X tg l (iStr tl) := by
  intro pins s σ H R I h
  refine thn (hl pins s σ H _ I h) fun v s1 ⟨x, H1, I1, r1, q1⟩ => ?_
  obtain ⟨z, rfl, ha, q⟩ := q1
  obtain ⟨t, rfl⟩ := r1
  refine wpAny_pyIter_ascii ha ?_
  refine ⟨s1.heap.objs.size, [s1.heap.objs.size], _, _, H1, rfl, I1.kept (t' := s1.toks) fun b o e => Heap.get?_push_of_some _ e, turn_str z t _, ⟨_, Heap.get?_push_size _ rfl, rfl, rfl⟩, fun b hb => ?_, q⟩
  obtain rfl : b = s1.heap.objs.size := by simpa using hb
  exact I1.fpOk (Nat.le_refl _) (I1.hok.fresh (Nat.le_refl _))
end
def isTupT : Expr → Bool
  | .Tuple _ _ _ => true
  | _ => false
def Iel (K : PySem.W.Frag) (a : Addr) : It :=
  ⟨fun i H => ∃ xs x, SqL K H a xs ∧ xs[i]? = some x, fun i H x H' => ∃ p v, H p = none ∧ x = .ref p ∧ H' = upd H p (.tup [.int i, v]) ∧ ∀ xs, SqL K H a xs → xs[i]? = some v, fun i H => ∃ xs, SqL K H a xs ∧ xs.length ≤ i⟩
theorem turn_enum {P : Program} {w : World} {K : PySem.W.Frag} {elts : List Expr} {x1} {pos : Pos} (a e it : Addr) (hne : e ≠ it) :
    Turn P w K (.Tuple elts x1 pos) (Iel K a) [e, it] e (fun i h => (∃ old, IsEnum h e it (i : Int) old) ∧ h.IsListIter it a i) where
  mem := by simp
  obj := fun i h st b hb => by
    obtain ⟨⟨old, he⟩, o, ho, hc, hd⟩ := st
    rcases List.mem_cons.mp hb with rfl | hb
    · refine ⟨_, he, fun v q => ?_⟩
      have q' : Data.fields _ = Data.cell v := q
      cases q'
    · obtain rfl : b = it := by simpa using hb
      exact ⟨o, ho, fun v q => by rw [hd] at q; cases q⟩
  keep := fun i h h' st k => by
    obtain ⟨⟨old, he⟩, o, ho, r⟩ := st
    exact ⟨⟨old, k e (by simp) _ he⟩, o, k it (by simp) o ho, r⟩
  item := by
    intro X hP hw hK hc i pins s σ H E I hf st hg
    subst hP hw hK
    obtain ⟨xs, x, hq, hx⟩ := hg
    obtain ⟨⟨old, he⟩, hit⟩ := st
    obtain ⟨its, rv, p, hz⟩ := I.list hq
    obtain ⟨u, hu, ru⟩ := rv.get hx
    obtain ⟨f0, f1, f2, f3, f4, f5⟩ := hf e (by simp)
    obtain ⟨g0, g1, g2, g3, g4, g5⟩ := hf it (by simp)
    refine wpAny_pyNext_enum_item he hit p.isList (x := u) (by simpa using hu) hne fun h1 ho hi ht hs k1 => ⟨_, rfl, ?_⟩
    have he' : e < s.heap.objs.size := Heap.lt_size he
    have hi' : it < s.heap.objs.size := by obtain ⟨o, q, _⟩ := hit; exact Heap.lt_size q
    refine wpAny_letOwnedTupleGo_enum (s := { s with heap := h1, toks := s.toks + 1 }) ho fun h2 hE sb => ?_
    have k2 : ∀ b o, b ≠ e → b ≠ it → s.heap.get? b = some o → h2.get? b = some o := fun b o n1 n2 q => sb.extBut b o n1 (k1 b o n1 n2 q)
    have ht2 : h2.get? s.heap.objs.size = some { cls := .type "tuple", data := .seq #[.int i s.toks, u] } := sb.extBut _ _ (Nat.ne_of_gt he') ht
    have hsz2 : h2.objs.size = s.heap.objs.size + 1 := by rw [sb.1]; exact hs
    have hHs : H s.heap.objs.size = none := I.hok.fresh (Nat.le_refl _)
    have nt : ∀ b o, H b = some o → b ≠ e ∧ b ≠ it := fun b o q => ⟨(fun z => by rw [z, f0] at q; cases q), (fun z => by rw [z, g0] at q; cases q)⟩
    have hok : HOk X.prog X.w (upd H s.heap.objs.size (.tup [.int i, x])) h2 := by
      have lift : ∀ b o, H b = some o → ObjOk X.prog X.w (upd H s.heap.objs.size (.tup [.int i, x])) h2 b o := fun b o q =>
        (I.hok b o q).stay (fun c v hcv r => k2 c v (by
          rcases hcv with z | z
          · rw [z]; exact (nt b o q).1
          · exact (nt c _ z).1) (by
          rcases hcv with z | z
          · rw [z]; exact (nt b o q).2
          · exact (nt c _ z).2) r) (fun c r => by rw [upd_ne (ne_of_none r hHs)]; exact r) fun c ys r => by rw [upd_ne (ne_of_none r hHs)]; exact r
      intro b o q
      by_cases eb : b = s.heap.objs.size
      · subst eb
        rw [upd_same] at q
        cases q
        exact ⟨by show 2 ≤ sizeLine; decide, [.int i s.toks, u], .cons ⟨_, rfl⟩ (.cons ru .nil), ⟨_, ht2, rfl, _, rfl⟩⟩
      · rw [upd_ne eb] at q
        exact lift b o q
    have I2 : Inv X pins σ (upd H s.heap.objs.size (.tup [.int i, x])) { s with heap := h2, toks := s.toks + 1 } := by
      refine I.step (g' := s.gens) (d' := s.drawn) (ch := [e, it]) (fun b hb => ?_) (fun b o hL hb hcb q n => ?_) (fun b o hL hb hcb q n => ?_) (fun b o hcb q n => ?_) (fun b o hcb q => ?_) (fun b ys q => by rw [upd_ne (ne_of_none q hHs)]; exact q) (fun b o u q => by rw [upd_ne (ne_of_none q hHs)]; exact q)
        (fun b ps q => ⟨#[], by rw [upd_ne (ne_of_none q hHs), q]; simp⟩) (fun m hm => ?_) hok I.bare
      · rcases List.mem_cons.mp hb with rfl | hb
        · exact ⟨f3, f1, f4, f5⟩
        · obtain rfl : b = it := by simpa using hb
          exact ⟨g3, g1, g4, g5⟩
      · simp only [List.mem_cons, List.not_mem_nil, or_false, not_or] at hcb
        exact k2 b o hcb.1 hcb.2 q
      · simp only [List.mem_cons, List.not_mem_nil, or_false, not_or] at hcb
        exact ⟨o.slots, k2 b o hcb.1 hcb.2 q⟩
      · rw [upd_ne (Nat.ne_of_lt (Heap.lt_size q))]; exact n
      · simp only [List.mem_cons, List.not_mem_nil, or_false, not_or] at hcb
        exact ⟨o, k2 b o hcb.1 hcb.2 q⟩
      · obtain ⟨o, es, ep, q, r⟩ := hm
        exact ⟨o, es, ep, k2 _ o (Ne.symm f1) (Ne.symm g1) q, r⟩
    refine ⟨.ref s.heap.objs.size, _, I2, rfl, ⟨_, x, hHs, rfl, rfl, fun ys hy => by rw [I.list_inj hy hq]; exact hx⟩, ⟨⟨_, by have := hE; rw [show ((i : Int) + 1) = ((i + 1 : Nat) : Int) by omega] at this; exact this⟩, ?_⟩, fun b hb => ?_⟩
    · obtain ⟨o, q, r⟩ := hi
      exact ⟨o, sb.extBut _ _ (Ne.symm hne) q, r⟩
    · rcases List.mem_cons.mp hb with rfl | hb
      · rw [upd_ne (Nat.ne_of_lt he')]; exact f0
      · obtain rfl : b = it := by simpa using hb
        rw [upd_ne (Nat.ne_of_lt hi')]; exact g0
  done := by
    intro X hP hw hK hc i pins s σ H E I hf st hg
    subst hP hw hK
    obtain ⟨xs, hq, hx⟩ := hg
    obtain ⟨⟨old, he⟩, hit⟩ := st
    obtain ⟨its, rv, p, hz⟩ := I.list hq
    obtain ⟨g0, g1, g2, g3, g4, g5⟩ := hf it (by simp)
    have hl := rv.length
    exact wpAny_pyNext_enum_end (I.ok.hd hc) he hit p.isList (by simp; omega) fun h' eb => ⟨rfl, I.turned (t' := s.toks) (fun b o hb q => eb b o hb q) g0 g1 g3 g4 g5⟩
  self := fun _ _ _ _ _ st h => by
    obtain ⟨⟨old, he⟩, _⟩ := st
    exact wpAny_pyIter_enum he h
section
variable {X : Cx}
def iEnum (K : PySem.W.Frag) (ta : TA) : TI := fun σ H R => ta σ H fun vs H1 => ∃ a, vs = [.ref a] ∧ (∃ xs, SqL K H1 a xs) ∧ R (Iel K a) H1
theorem pi_enum {l : Expr} {ta : TA} {p pos tpos : Pos} {elts : List Expr} {x1} (hg : Gl X "enumerate") (hm : X.mg "enumerate" = none) (ha : PA X [l] ta) (hs : starEach [l] X.env = [(false, eval l X.env)] := by rfl) :
    PI X (.Tuple elts x1 tpos) (.Call (.Name "enumerate" p) [l] [] pos) (iEnum X.K ta) := by
  intro pins s σ H R I h
  refine Call_ (ld_blt I hg hm (u := .type "enumerate") (by decide +kernel) (PyProof.Rows.callWith_type1 (thn (ha pos pins s σ H _ I h) fun us s1 ⟨vs, H1, I1, r1, q1⟩ => ?_) hs rfl))
  obtain ⟨a, rfl, ⟨xs, hq⟩, q⟩ := q1
  obtain ⟨u, rfl, ru⟩ := vals1 r1
  cases ru
  obtain ⟨its, rv, pl, hz⟩ := I1.list hq
  refine call_enumerate_list pl.isList fun h' he hit hsz hk => ?_
  refine wpAny_pyIter_enum he ?_
  have I2 : Inv X pins σ H1 { s1 with heap := h' } := I1.kept (t' := s1.toks) hk
  refine ⟨_, _, _, _, H1, rfl, I2, turn_enum a (s1.heap.objs.size + 1) s1.heap.objs.size (Nat.succ_ne_self _), ⟨⟨_, he⟩, hit⟩, fun b hb => ?_, q⟩
  rcases List.mem_cons.mp hb with rfl | hb
  · exact I1.fpOk (Nat.le_succ _) (I1.hok.fresh (Nat.le_succ _))
  · obtain rfl : b = s1.heap.objs.size := by simpa using hb
    exact I1.fpOk (Nat.le_refl _) (I1.hok.fresh (Nat.le_refl _))
end
theorem for_enum {K : PySem.W.Frag} {a : Addr} {xs : List V} {g : TG} {tb : TS} {D : Ends} {σ : St} {H : Hp} (Pv : Nat → St → Hp → Prop) (h0 : Pv 0 σ H) (hl : ∀ i σ H, i ≤ xs.length → Pv i σ H → SqL K H a xs)
    (hs : ∀ i x σ H p, xs[i]? = some x → Pv i σ H → H p = none → g (.ref p) σ (upd H p (.tup [.int i, x])) fun σ2 H2 => tb { D with nx := Pv (i + 1), ct := Pv (i + 1), bk := D.nx } σ2 H2) (hd : ∀ σ H, Pv xs.length σ H → D.nx σ H) :
    ∃ W : Nat → Nat → St → Hp → Prop, (∃ m, W 0 m σ H) ∧ ∀ i m σ H, W i m σ H →
      ((Iel K a).stop i H ∧ D.nx σ H) ∨ ((Iel K a).go i H ∧ ∃ N : St → Hp → Prop, (∀ σ' H', N σ' H' → ∃ m', m' < m ∧ W (i + 1) m' σ' H') ∧ ∀ x H', (Iel K a).yld i H x H' → g x σ H' fun σ2 H2 => tb { D with nx := N, ct := N, bk := D.nx } σ2 H2) := by
  refine ⟨fun i m σ H => m = xs.length - i ∧ i ≤ xs.length ∧ Pv i σ H, ⟨xs.length, by simp, Nat.zero_le _, h0⟩, ?_⟩
  rintro i m σ H ⟨rfl, hi, p⟩
  have q := hl i σ H hi p
  by_cases hlt : i < xs.length
  · refine .inr ⟨⟨xs, xs[i], q, by simp [hlt]⟩, Pv (i + 1), fun σ' H' p' => ⟨xs.length - (i + 1), by omega, rfl, hlt, p'⟩, fun x H' y => ?_⟩
    obtain ⟨r, v, hr, rfl, rfl, y⟩ := y
    exact hs i v σ H r (y xs q) p hr
  · have e : i = xs.length := by omega
    subst e
    exact .inl ⟨⟨xs, q, Nat.le_refl _⟩, hd σ H p⟩
end L2
end
section
set_option Elab.async false
set_option linter.all false
set_option maxRecDepth 100000
namespace L2
open PySem PySem.Spec PyProof.Rows
theorem subTS : isSubtype (.type "tuple") (.type "set") = pure false := by rw [isSubtype_type]; kernel_rfl
theorem subTF : isSubtype (.type "tuple") (.type "frozenset") = pure false := by rw [isSubtype_type]; kernel_rfl
section
variable {prog : Program} {w : World} {A : Around} {E : Value → Shared → Prop} {s : Shared}
set_option maxHeartbeats 3200000 in
theorem call_set_tuple {l : Addr} {its : Array Value} {ns : List Int} {Q : Value → Shared → Prop}
    (hh : A.handled = none) (hl : s.heap.IsTuple l its) (hi : IntsAre its.toList ns) (hb : its.size + 1 < scanBound)
    (h : ∀ (h' : Heap) (tk : Nat), h'.SetOf (intKind prog w) s.heap.objs.size (fun j => (firstMet (fun i => ns.getD i 0) its.size).any (· == j)) (firstMet (fun i => ns.getD i 0) its.size).length →
      (∀ b o, b < s.heap.objs.size → s.heap.get? b = some o → h'.get? b = some o) → Q (.ref s.heap.objs.size) { s with heap := h', toks := tk }) :
    wpAny (model prog w) A (call (.type "set") [.ref l]) Q E s := by
  obtain ⟨cc, tl, hmro⟩ := F.called_set.mro
  have hmade := F.called_set.made
  have hsub := F.called_set.sub
  refine wpAny_call (codeAny_of_tree ?_)
  show wpAny _ _ (callAny (.type "set") _) _ _ _
  refine wpAny_pure ⟨Code.quiet_builtin _ (by decide +kernel), codeAny_builtin F.entry_type_call ?_⟩
  rw [Around.under_plain (weight_type_call_type "set" [.ref l] []) rfl]
  have k1 := F.called_set.notType
  have k2 := F.called_set.canCreate
  have k3 := F.typeCall_set_1 (.ref l)
  repeat (any_goals (first | assumption | wp_step))
  refine codeAny_mono (code_set_new_1 (.ref l) (E := E) (Q₁ := fun ob t₁ => ∃ led : Bool, ob = .ref s.heap.objs.size ∧ t₁ = { s with heap := s.heap.push { cls := .type "set", dict := none, data := .set #[] 0 (.fresh 0 0 led) } }) fun led => ⟨led, rfl, rfl⟩) fun r t₁ hr => ?_
  cases r with
  | error e => exact hr
  | ok fl =>
    cases fl with
    | ret ob =>
      obtain ⟨led, rfl, rfl⟩ := hr
      have gS : (s.heap.push { cls := .type "set", dict := none, data := .set #[] 0 (.fresh 0 0 led) }).get? s.heap.objs.size = some { cls := .type "set", dict := none, data := .set #[] 0 (.fresh 0 0 led) } := Heap.get?_push_size _ rfl
      have gT : Shared.TypeIs { s with heap := s.heap.push { cls := .type "set", dict := none, data := .set #[] 0 (.fresh 0 0 led) } } (.ref s.heap.objs.size) "set" := ⟨_, gS, rfl⟩
      have k4 := F.called_set.init.lookup
      have k5 := F.called_set.init.bind (.ref s.heap.objs.size)
      repeat (any_goals (first | assumption | wp_step))
      refine codeAny_mono (codeAny_call_builtin (R := wants (fun r t₂ => r = .none ∧ ∃ h' tk, t₂ = { s with heap := h', toks := tk } ∧
          h'.SetOf (intKind prog w) s.heap.objs.size (fun j => (firstMet (fun i => ns.getD i 0) its.size).any (· == j)) (firstMet (fun i => ns.getD i 0) its.size).length ∧
          (∀ b o, b < s.heap.objs.size → s.heap.get? b = some o → h'.get? b = some o)) E) F.called_set.init.plain F.entry_set_init (check_set_init_1 gT ?_)) fun r₂ t₂ hr₂ => ?_
      · obtain ⟨ol, hol, hcl, nl, hdl⟩ := hl
        obtain ⟨ocls, odict, odata, oslots⟩ := ol
        simp only at hcl hdl
        subst hcl; subst hdl
        have gol : (s.heap.push { cls := .type "set", dict := none, data := .set #[] 0 (.fresh 0 0 led) }).get? l = some { cls := .type "tuple", dict := odict, data := .seq its nl, slots := oslots } := Heap.get?_push_of_some _ hol
        have k6 := subTS
        have k7 := subTF
        have k8 : (Value.type "tuple" == Value.type "dict") = false := by decide
        have gl : (s.heap.push { cls := .type "set", dict := none, data := .set #[] 0 (.fresh 0 0 led) }).IsTuple l its := ⟨_, gol, rfl, nl, rfl⟩
        unfold Builtin.«set.__init__» noKeywords Builtin.Frozenset.updateFrom
        generalize gPI : pyIter = PI
        wp_walk
        subst gPI
        refine wpAny_pyIter_tuple gl ?_
        refine wpAny_bind (wpAny_runValue ?_)
        have lS : l < s.heap.objs.size := Heap.lt_size hol
        have h3 : A.in1.in1.in1.handled = none := by simp [hh]
        have nI : l ≠ (s.heap.push { cls := .type "set", dict := none, data := .set #[] 0 (.fresh 0 0 led) }).objs.size := by
          rw [Heap.size_push]; exact Nat.ne_of_lt (Nat.lt_succ_of_lt lS)
        have nS : s.heap.objs.size ∉ [(s.heap.push { cls := .type "set", dict := none, data := .set #[] 0 (.fresh 0 0 led) }).objs.size, l] := by
          rw [Heap.size_push]; simp only [List.mem_cons, List.mem_singleton, List.not_mem_nil, or_false, not_or]
          exact ⟨Nat.ne_of_lt (Nat.lt_succ_self _), Nat.ne_of_gt lS⟩
        have hv : ∀ (i : Nat) (v : Value), its[i]? = some v → ∃ t, v = .int ((fun i => ns.getD i 0) i) t := fun i v hv =>
          IntsAre.int_at hi i v (by rw [Array.getElem?_toList]; exact hv)
        refine codeAny_set_update_loopS ((Walks.tuple h3 _ l nI its).toS) s.heap.objs.size
          nS (fun i => ns.getD i 0) hv hb (its.size - 0) 0 _ (by omega) (Nat.zero_le _)
          ⟨⟨_, Heap.get?_push_size _ rfl, rfl, rfl⟩, (gl.push _)⟩ ?hS0 ?hR
        case hS0 =>
          have hget : ((s.heap.push { cls := .type "set", dict := none, data := .set #[] 0 (.fresh 0 0 led) }).push { cls := .type "tuple_iterator", data := .fields #[.ref l, .int 0 0] }).get? s.heap.objs.size
              = some { cls := .type "set", dict := none, data := .set #[] 0 (.fresh 0 0 led) } := Heap.get?_push_of_some _ gS
          exact SetOf_congr ((setObjOf_fresh (knd := intKind prog w) led).setOf hget (by unfold scanBound; omega)) (fun _ => rfl) rfl
        case hR =>
          intro s' hm hS'
          obtain ⟨h', g', d', tk', os'⟩ := s'
          have eg : g' = s.gens := hm.gens
          have ed : d' = s.drawn := hm.drawn
          have eo : os' = s.os := hm.os
          subst eg; subst ed; subst eo
          show wpAny _ _ _ _ _ _
          refine wpAny_pure ?_
          show wpAny _ _ (ret Value.none) _ _ _
          refine wpAny_pure ⟨rfl, h', tk', rfl, hS', fun b o hb e => ?_⟩
          have hb1 : b ≠ s.heap.objs.size := Nat.ne_of_lt hb
          have hb2 : b ≠ (s.heap.push { cls := .type "set", dict := none, data := .set #[] 0 (.fresh 0 0 led) }).objs.size := by
            rw [Heap.size_push]; exact Nat.ne_of_lt (Nat.lt_succ_of_lt hb)
          exact hm.heap b o (by simp only [List.mem_cons, List.mem_singleton, List.not_mem_nil, or_false, not_or]; exact ⟨hb1, hb2⟩) (Heap.get?_push_of_some _ (Heap.get?_push_of_some _ e))
      · cases r₂ with
        | error e => exact hr₂
        | ok fl₂ =>
          cases fl₂ with
          | ret r =>
            obtain ⟨rfl, h', tk, rfl, hS', hk'⟩ := hr₂
            repeat (any_goals (first | assumption | wp_step))
            exact h _ _ hS' hk'
          | _ => exact hr₂.elim
    | _ => exact hr.elim
end
end L2
end
section
set_option Elab.async false
set_option linter.all false
set_option maxRecDepth 100000
namespace L2
open PySem PySem.Spec PyProof.Rows
section
variable {X : Cx}
def unlike (ns : List Int) : Nat := (firstMet (fun i => ns.getD i 0) ns.length).length
theorem call_setT (hh : X.A.handled = none) : CallR X (.type "set") (fun xs H Q => ∃ (a : Addr) (ns : List Int), xs = [.ref a] ∧ SqT X.K H a (ns.map V.int) ∧ ns.length ≤ 4000 ∧ ∀ p S, H p = none → Q (.ref p) (upd H p (.set S (unlike ns)))) := by
  intro pins s σ H xs us Q I r h
  obtain ⟨a, ns, rfl, hq, hz, q⟩ := h
  obtain ⟨u, rfl, rx⟩ := vals1 r
  cases rx
  obtain ⟨its, rv, ht, hl⟩ := I.tuple hq
  have len := rv.length
  rw [List.length_map] at len
  refine call_set_tuple hh (show s.heap.IsTuple a its.toArray from ht) (by simpa using intsAre_of rv) (by rw [List.size_toArray]; unfold scanBound; omega) fun h' tk hS hk => ?_
  rw [show its.toArray.size = ns.length by simp [len]] at hS
  have kp : ∀ b o, s.heap.get? b = some o → h'.get? b = some o := fun b o e => hk b o (Heap.lt_size e) e
  exact ⟨.ref s.heap.objs.size, _, I.laid (t' := tk) (o := .set _ (unlike ns)) kp (Nat.le_refl _) hS, rfl, q _ _ (I.hok.fresh (Nat.le_refl _))⟩
theorem call_len_setO : CallR X (.builtin "len") (fun xs H Q => ∃ (a : Addr) (S : Int → Bool) (n : Nat), xs = [.ref a] ∧ H a = some (.set S n) ∧ Q (.int n) H) := by
  intro pins s σ H xs us Q I r h
  obtain ⟨a, S, n, rfl, hq, q⟩ := h
  obtain ⟨u, rfl, rx⟩ := vals1 r
  cases rx
  obtain ⟨o, es, ep, t, h1, h2, h3, h4, h5, h6, h7, h8⟩ := I.hok _ _ hq
  subst h8
  refine call_len_set h1 h2 h3 h7 (by have : es.size < 4096 := h6; omega) ⟨.int _, H, I.tok _, ⟨_, rfl⟩, q⟩
def SetO (P : Program) (w : World) (a : Addr) (S : Key → Bool) (n : Nat) : HO := .ext fun h => h.SetOf (mixKind P w) a S n
theorem setO_ok {P : Program} {w : World} {H : Hp} {h : Heap} {a : Addr} {S : Key → Bool} {n : Nat} (x : h.SetOf (mixKind P w) a S n) : ObjOk P w H h a (SetO P w a S n) := by
  obtain ⟨o, r⟩ := id x
  obtain ⟨es, ep, t, e, r⟩ := r
  refine ⟨x, ⟨o, e⟩, fun h1 h2 ⟨o1, es1, ep1, t1, e1, r1⟩ k => ⟨o1, es1, ep1, t1, k _ e1, r1⟩⟩
theorem call_set0 : CallR X (.type "set") (fun xs H Q => xs = [] ∧ ∀ p, H p = none → Q (.ref p) (upd H p (SetO X.prog X.w p (fun _ => false) 0))) := by
  intro pins s σ H xs us Q I r h
  obtain ⟨rfl, q⟩ := h
  cases r
  refine call_set_0 fun led => ?_
  have hget : (s.heap.push { cls := .type "set", dict := none, data := .set #[] 0 (.fresh 0 0 led) }).get? s.heap.objs.size = some { cls := .type "set", dict := none, data := .set #[] 0 (.fresh 0 0 led) } := Heap.get?_push_size _ rfl
  refine ⟨.ref s.heap.objs.size, _, I.laid (t' := s.toks) (o := SetO X.prog X.w s.heap.objs.size (fun _ => false) 0) (fun b o e => Heap.get?_push_of_some _ e) (Nat.le_refl _) (setO_ok ?_), rfl, q _ (I.hok.fresh (Nat.le_refl _))⟩
  letI : BEq Key := ⟨fun a b => decide (a = b)⟩
  haveI : LawfulBEq Key := { eq_of_beq := fun h => of_decide_eq_true h, rfl := decide_eq_true rfl }
  exact SetOf_congr ((setObjOf_fresh (knd := mixKind X.prog X.w) led).setOf hget (by unfold scanBound; omega)) (fun _ => rfl) rfl
theorem kV_isK {k : Key} {u : Value} (r : RelV (kV k) u) : keyIs k u = true ∧ u.scannable = true := by
  cases k with
  | inl i => obtain ⟨t, rfl⟩ := r; exact ⟨keyIs_int i t, rfl⟩
  | inr x => obtain ⟨t, rfl⟩ := r; exact ⟨keyIs_str x t, rfl⟩
def rInSet (P : Program) (w : World) : R2 := fun x y H Q => ∃ a S n k, y = .ref a ∧ x = kV k ∧ H a = some (SetO P w a S n) ∧ Q (.bl (S k)) H
theorem op_in_set : OpR X (compareOp .In) (rInSet X.prog X.w) := by
  intro pins s σ H x y v u Q I rx ry h
  obtain ⟨a, S, n, k, rfl, rfl, ha, q⟩ := h
  cases ry
  obtain ⟨h1, h2⟩ := kV_isK rx
  obtain ⟨hS, _⟩ := I.hok _ _ ha
  exact wpAny_inSet_of (knd := mixKind X.prog X.w) h1 h2 hS ⟨.bl _, H, I.tok _, rfl, q⟩
def rSetAdd (P : Program) (w : World) : V → List V → Hp → VK → Prop := fun x vs H Q => ∃ a S n k, x = .ref a ∧ vs = [kV k] ∧ H a = some (SetO P w a S n) ∧ n < 4000 ∧ Q .non (upd H a (SetO P w a (fun j => S j || decide (j = k)) (if S k then n else n + 1)))
theorem mt_set_add : MtM X "set.add" (rSetAdd X.prog X.w) := by
  intro pins s σ H x vs v us Q I rx rv h
  obtain ⟨a, S, n, k, rfl, rfl, ha, hz, q⟩ := h
  cases rx
  obtain ⟨u, rfl, ru⟩ := rv.one
  obtain ⟨h1, h2⟩ := kV_isK ru
  obtain ⟨hS, _⟩ := id (I.hok _ _ ha)
  refine call_set_add (knd := mixKind X.prog X.w) h1 h2 hS (by unfold scanBound; omega) fun h' sb hS' => ?_
  have he : ∃ u, h'.get? a = some u := by obtain ⟨o, es, ep, t, e, _⟩ := hS'; exact ⟨o, e⟩
  exact ⟨.non, _, I.write (x := a) (e := a) (t' := s.toks + 1) (by rw [ha]; trivial) (.inl rfl) (fun b o hb e => sb.extBut b o hb e) he (setO_ok hS'), rfl, q⟩
end
end L2
end
section
set_option Elab.async false
set_option linter.all false
set_option maxRecDepth 100000
namespace L2
open PySem PySem.Spec PyProof.Rows
section
variable {prog : Program} {w : World} {A : Around} {E : Value → Shared → Prop}
theorem drawL {it l : Addr} {its : Array Value} (ne : l ≠ it) : ∀ (n i : Nat) (s : Shared) (Q : List Value → Shared → Prop), s.heap.IsListIter it l i → s.heap.IsList l its → i + n ≤ its.size →
    (∀ h', h'.IsListIter it l (i + n) → Heap.SameBut it s.heap h' → Q ((its.toList.drop i).take n) { s with heap := h' }) → wpAny (model prog w) A (draw (.ref it) n) Q E s
  | 0, i, s, Q, a, _, _, q => by
    show wpAny _ _ (pure []) Q E s
    exact wpAny_pure (by simpa using q s.heap a (Heap.SameBut.refl ..))
  | n + 1, i, s, Q, a, b, le, q => by
    have lt : i < its.size := by omega
    show wpAny _ _ (pyNext (.ref it) >>= _) Q E s
    refine wpAny_bind (wpAny_pyNext_list_item a b (x := its[i]) (by simp [lt]) fun h1 a1 s1 => ?_)
    refine wpAny_bind (wpAny_holding (drawL ne n (i + 1) _ _ a1 (b.extBut s1.extBut ne) (by omega) fun h2 a2 s2 => wpAny_pure ?_))
    have e : its.toList.drop i = its[i] :: its.toList.drop (i + 1) := by simp [List.drop_eq_getElem_cons, lt]
    have z := q h2 (by rw [show i + (n + 1) = i + 1 + n by omega]; exact a2) (s1.trans s2)
    rw [e, List.take_succ_cons] at z
    exact z
theorem unpackL {s : Shared} {t : Addr} {its : Array Value} {tgs : List (Bool × (Value → Sem Unit))} {Q : Unit → Shared → Prop} (hh : A.handled = none) (ht : s.heap.IsList t its)
    (hn : tgs.length = its.size) (hst : tgs.findIdx? (·.1) = none)
    (h : ∀ h', Heap.ExtBut s.heap.objs.size s.heap h' → wpAny (model prog w) A (assignInOrder (tgs.map (·.2)) its.toList) Q E { s with heap := h' }) :
    wpAny (model prog w) A (unpack (.ref t) tgs) Q E s := by
  have ne : t ≠ s.heap.objs.size := by obtain ⟨o, ho, _⟩ := ht; exact Nat.ne_of_lt (Heap.lt_size ho)
  unfold unpack
  rw [hn, hst]
  refine wpAny_bind (wpAny_holding ?_)
  unfold unpackItems
  refine wpAny_bind ?_
  · unfold notIterableAtAll
    refine wpAny_bind (wpAny_specialOf ht.typeIs slot_list_iter.lookup (wpAny_pure ?_))
    simp only [Bool.false_eq_true, if_false]
    refine wpAny_bind (wpAny_holding (wpAny_pyIter_list ht ?_))
    refine wpAny_bind (wpAny_holding (drawL ne its.size 0 _ _ ⟨_, Heap.get?_push_size _ rfl, rfl, rfl⟩ (ht.push _) (by omega) fun h1 a1 s1 => ?_))
    have all : List.take its.size (List.drop 0 its.toList) = its.toList := by rw [List.drop_zero]; exact List.take_of_length_le (by simp)
    rw [all, if_neg (by simp)]
    have b1 : h1.IsList t its := (ht.push _).extBut s1.extBut ne
    refine wpAny_bind (wpAny_holding (wpAny_pyNext_list_end hh a1 b1 (by simp) fun h2 e2 => ?_))
    simp only [Option.isSome_none, Bool.false_eq_true, if_false]
    exact wpAny_pure (h h2 fun b o hb e => e2 b o hb (s1.extBut b o hb (Heap.get?_push_of_some _ e)))
end
section
variable {X : Cx} {pos : Pos}
def gLst (K : PySem.W.Frag) (n : Nat) (t : TGs) : TG := fun v σ H Q => ∃ a xs, v = .ref a ∧ SqL K H a xs ∧ xs.length = n ∧ t xs σ H Q
theorem pg_lst {es : List Expr} {k : Nat} {t : TGs} {n : Nat} (hc : X.calm = true) (h : PGs X es t)
    (hn : (assignEach es X.env).length = n := by rfl) (hst : (assignEach es X.env).findIdx? (·.1) = none := by rfl) : PG X (.Tuple es k pos) (gLst X.K n t) := by
  intro pins s σ H v u Q I r hw
  obtain ⟨a, xs, rfl, hq, hl, hw⟩ := hw
  cases r
  obtain ⟨its, rv, pl, hz⟩ := I.list hq
  rw [assign_Tuple]
  refine wpAny_bind (wpAny_standAt (unpackL (I.ok.hd hc) pl.isList (by simp [hn, ← hl, rv.length]) hst fun h' hx => ?_))
  have I1 : Inv X pins σ H { s with heap := h' } := I.kept (t' := s.toks) fun b o e => hx b o (Nat.ne_of_lt (Heap.lt_size e)) e
  exact h pins _ σ H xs _ Q I1 (by simpa using rv) hw
theorem op_le_str : OpR X (compareOp .LtE) (fun x y H Q => ∃ i j, x = .str i ∧ y = .str j ∧ Q (.bl (!decide (j.cps.toList < i.cps.toList))) H) := by
  intro pins s σ H x y v u Q I rx ry h
  obtain ⟨i, j, rfl, rfl, q⟩ := h
  obtain ⟨t, rfl⟩ := rx
  obtain ⟨t', rfl⟩ := ry
  exact PySem.P.le_str (fin_bl I q rfl)
theorem sl_str : SlR X (fun x lo hi H Q => ∃ z, x = .str z ∧ z.length ≤ sizeLine ∧ Q (.str (Txt.slice z lo hi)) H) := by
  intro pins s σ H x v vl vu lo hi sl Q I rx hs pl pu h
  obtain ⟨z, rfl, hz, q⟩ := h
  obtain ⟨t, rfl⟩ := rx
  have fin : ∀ t' k, EP X pins σ Q (.str (Txt.slice z lo hi) t') { s with toks := k } := fun t' k => ⟨.str _, H, I.tok k, ⟨_, rfl⟩, q⟩
  have hle := Nat.le_trans (Txt.slice_le z lo hi) hz
  refine ⟨"str", _, F.slot_str_getitem.lookup, typeIs_str _ _ _, ?_⟩
  cases pl with
  | none =>
    cases pu with
    | none => exact wpAny_getItem_str_slice (l := none) (u := none) (st := none) hs rfl (post_val_or_str ⟨hle, fin⟩)
    | int j uj => exact wpAny_getItem_str_slice (l := none) (u := some (j, uj)) (st := none) hs rfl (post_val_or_str ⟨hle, fin⟩)
  | int i ui =>
    cases pu with
    | none => exact wpAny_getItem_str_slice (l := some (i, ui)) (u := none) (st := none) hs rfl (post_val_or_str ⟨hle, fin⟩)
    | int j uj => exact wpAny_getItem_str_slice (l := some (i, ui)) (u := some (j, uj)) (st := none) hs rfl (post_val_or_str ⟨hle, fin⟩)
theorem call_rng : CallR X (.type "range") (fun xs H Q => ∃ n : Int, xs = [.int n] ∧ ∀ p, H p = none → Q (.ref p) (upd H p (.rng 0 n))) := by
  intro pins s σ H xs us Q I r h
  obtain ⟨n, rfl, q⟩ := h
  obtain ⟨u, rfl, rx⟩ := vals1 r
  obtain ⟨t, rfl⟩ := rx
  exact call_range_1 ⟨.ref s.heap.objs.size, _, I.laid (o := .rng 0 n) (fun b o e => Heap.get?_push_of_some _ e) (Nat.le_refl _) ⟨_, _, _, Heap.get?_push_size _ rfl⟩, rfl, q _ (I.hok.fresh (Nat.le_refl _))⟩
def upTo (n : Nat) : List V := (List.range n).map fun i => V.int (i : Nat)
theorem vals_upTo {acc : Array Value} {n : Nat} (h : ItemsOf (fun i v => ∃ t, v = .int (0 + (i : Int) * 1) t) acc n) : Vals (upTo n) acc.toList := by
  obtain ⟨h1, h2⟩ := h
  have key : ∀ (l : List Value) (k : Nat), (∀ (j : Nat) v, l[j]? = some v → ∃ t, v = .int ((k + j : Nat) : Int) t) → Vals ((List.range' k l.length).map fun i => V.int (i : Nat)) l := by
    intro l
    induction l with
    | nil => intro k _; exact .nil
    | cons v r ih =>
      intro k hv
      rw [List.length_cons, List.range'_succ, List.map_cons]
      refine .cons (hv 0 v rfl) (ih (k + 1) fun j u hj => ?_)
      obtain ⟨t, e⟩ := hv (j + 1) u (by simpa using hj)
      exact ⟨t, by rw [e, show k + (j + 1) = k + 1 + j by omega]⟩
  have q := key acc.toList 0 fun j v hj => by
    obtain ⟨t, e⟩ := h2 j v (by simpa using hj)
    exact ⟨t, by rw [e]; congr 1; omega⟩
  rw [Array.length_toList, h1, ← List.range_eq_range'] at q
  exact q
theorem call_list_rng (hh : X.A.handled = none) : CallR X (.type "list") (fun xs H Q => ∃ (a : Addr) (n : Nat), xs = [.ref a] ∧ H a = some (.rng 0 n) ∧ n ≤ 1000000 ∧ ∀ p, H p = none → Q (.ref p) (upd H p (.lst (upTo n)))) := by
  intro pins s σ H xs us Q I r h
  obtain ⟨a, n, rfl, ha, hz, q⟩ := h
  obtain ⟨u, rfl, rx⟩ := vals1 r
  cases rx
  obtain ⟨t, u, v, e⟩ := I.hok _ _ ha
  have hn : Builtin.Range.rangeSize 0 n 1 = (n : Int) := by rw [rangeSize_one]; split <;> omega
  refine call_list_range (n := n) hh (show IsRange s.heap a 0 n 1 t u v from e) (small_one (by omega) (by omega) (by omega) (by omega)) hn (Nat.le_trans hz (by decide)) fun h' tk acc c kp eo hi => ?_
  refine ⟨.ref s.heap.objs.size, _, I.laid (t' := tk) (o := .lst (upTo n)) kp (Nat.le_refl _) ⟨?_, acc.toList, c, vals_upTo hi, eo⟩, rfl, q _ (I.hok.fresh (Nat.le_refl _))⟩
  unfold upTo
  rw [List.length_map, List.length_range]
  exact Nat.le_trans hz (by decide)
def isI : V → Bool
  | .int _ => true
  | _ => false
theorem call_isint : CallR X (.builtin "isinstance") (fun xs H Q => (∃ i, xs = [.int i, .ty "int"] ∧ Q (.bl true) H) ∨ (∃ z, xs = [.str z, .ty "int"] ∧ Q (.bl false) H) ∨ (∃ i, xs = [.int i, .ty "bool"] ∧ Q (.bl false) H)) := by
  intro pins s σ H xs us Q I r h
  rcases h with ⟨i, rfl, q⟩ | ⟨i, rfl, q⟩ | ⟨i, rfl, q⟩
  · obtain ⟨u, v, rfl, ⟨t, rfl⟩, rv⟩ := vals2 r
    cases rv
    exact IsiPair.int_int ⟨.bl true, H, I, rfl, q⟩
  · obtain ⟨u, v, rfl, ⟨t, rfl⟩, rv⟩ := vals2 r
    cases rv
    exact IsiPair.str_int ⟨.bl false, H, I.tok _, rfl, q⟩
  · obtain ⟨u, v, rfl, ⟨t, rfl⟩, rv⟩ := vals2 r
    cases rv
    exact IsiPair.int_bool ⟨.bl false, H, I.tok _, rfl, q⟩
end
end L2
end
section
set_option Elab.async false
set_option linter.all false
set_option maxRecDepth 100000
namespace L2
open PySem PySem.Spec PyProof.Rows
open AutoSeq1 (wpAny_loadPart')
section
variable {prog : Program} {w : World} {A : Around} {E : Value → Shared → Prop} {s : Shared}
theorem nextT {it l : Addr} {i : Nat} {its : Array Value} {x : Value} {Q : Value → Shared → Prop} (a : s.heap.IsTupleIter it l i) (b : s.heap.IsTuple l its) (hx : its[i]? = some x)
    (q : ∀ h', h'.IsTupleIter it l (i + 1) → Heap.SameBut it s.heap h' → Q x { s with heap := h' }) : wpAny (model prog w) A (Builtin.SmallTypes.nextOf (.ref it)) Q E s := by
  obtain ⟨o, o1, o2, o3⟩ := id a
  obtain ⟨p, p1, _, n, p2⟩ := b
  unfold Builtin.SmallTypes.nextOf
  refine wpAny_bind (wpAny_callSpecial?_slot (name := Str.ofString "__next__") a.typeIs F.slot_tuple_iterator_next (wpAny_call_entry F.slot_tuple_iterator_next a.typeIs F.entry_tuple_iterator_next ?_ (F.args_tuple_iterator_next_1 _)))
  show wpAny _ _ (field (.ref it) 0 >>= _) _ _ s
  refine wpAny_bind (wpAny_field o1 o3 (x := .ref l) rfl ?_)
  show wpAny _ _ (if (Value.ref l == Value.none) = true then _ else _) _ _ s
  rw [if_neg (show ¬ ((Value.ref l == Value.none) = true) from Bool.false_ne_true)]
  show wpAny _ _ (field (.ref it) 1 >>= _) _ _ s
  refine wpAny_bind (wpAny_field o1 o3 (x := .int i 0) rfl ?_)
  show wpAny _ _ (seqItems? (.ref l) >>= _) _ _ s
  refine wpAny_bind (wpAny_seqItems p1 p2 ?_)
  simp only [Int.toNat_natCast, hx]
  refine wpAny_bind (wpAny_setField o1 o3 (by simp) (wpAny_pure ⟨x, rfl, wpAny_pure (q _ ?_ (Heap.SameBut.update ..))⟩))
  exact ⟨_, Heap.get?_update_self _ o1 (Obj.isFreed_of_fields (Obj.data_mapFields o3 _)), (Obj.cls_mapFields ..).trans o2, by rw [Obj.data_mapFields o3]; simp [rawInt]⟩
theorem nextTend {it l : Addr} {i : Nat} {its : Array Value} {Q : Value → Shared → Prop} (hh : A.handled = none) (a : s.heap.IsTupleIter it l i) (b : s.heap.IsTuple l its) (hx : its[i]? = none)
    (q : ∀ h' e, Heap.ExtBut it s.heap h' → (∃ o, h'.get? e = some o ∧ o.cls = .type "StopIteration") → E (.ref e) { s with heap := h' }) : wpAny (model prog w) A (Builtin.SmallTypes.nextOf (.ref it)) Q E s := by
  obtain ⟨o, o1, o2, o3⟩ := id a
  obtain ⟨p, p1, _, n, p2⟩ := b
  unfold Builtin.SmallTypes.nextOf
  refine wpAny_bind (wpAny_callSpecial?_slot (name := Str.ofString "__next__") a.typeIs F.slot_tuple_iterator_next (wpAny_call_entry F.slot_tuple_iterator_next a.typeIs F.entry_tuple_iterator_next ?_ (F.args_tuple_iterator_next_1 _)))
  show wpAny _ _ (field (.ref it) 0 >>= _) _ _ s
  refine wpAny_bind (wpAny_field o1 o3 (x := .ref l) rfl ?_)
  show wpAny _ _ (if (Value.ref l == Value.none) = true then _ else _) _ _ s
  rw [if_neg (show ¬ ((Value.ref l == Value.none) = true) from Bool.false_ne_true)]
  show wpAny _ _ (field (.ref it) 1 >>= _) _ _ s
  refine wpAny_bind (wpAny_field o1 o3 (x := .int i 0) rfl ?_)
  show wpAny _ _ (seqItems? (.ref l) >>= _) _ _ s
  refine wpAny_bind (wpAny_seqItems p1 p2 ?_)
  simp only [Int.toNat_natCast, hx]
  refine wpAny_bind (wpAny_rule (wpAny_bind (wpAny_setField o1 o3 (by simp) ?_)))
  show wpAny _ _ (newExc (.type "StopIteration") [] >>= _) _ _ _
  refine wpAny_bind ?_
  simp only [newExc, newTuple]
  refine wpAny_bind (wpAny_newObj_type ?_ (by size_fits))
  refine wpAny_bind (m := firstArgMember _ _) (wpAny_of_eq (a := Value.none) (by first | rfl | (simp only [firstArgMember]; rfl)) ?_)
  refine wpAny_newObj_type ?_ (by size_fits)
  simp only [raiseNew]
  refine wpAny_bind (wpAny_handled ?_)
  first | rw [show A.in1.handled = none from hh] | rw [hh]
  refine wpAny_bind (wpAny_pure (wpAny_throw ?_))
  refine q _ _ (fun b o hb e => ?_) ⟨_, Heap.get?_push_size _ rfl, rfl⟩
  exact Heap.get?_push_of_some _ (Heap.get?_push_of_some _ ((Heap.SameBut.update ..).extBut b o hb e))
theorem enumT_item {e it l : Addr} {i : Nat} {its : Array Value} {x old : Value} {Q : Option Value → Shared → Prop}
    (he : IsEnum s.heap e it i old) (a : s.heap.IsTupleIter it l i) (b : s.heap.IsTuple l its) (hx : its[i]? = some x) (ne : e ≠ it)
    (q : ∀ h', IsEnumOut h' e it ((i : Int) + 1) x s.heap.objs.size → h'.IsTupleIter it l (i + 1) →
      h'.get? s.heap.objs.size = some { cls := .type "tuple", data := .seq #[.int i s.toks, x] } → h'.objs.size = s.heap.objs.size + 1 →
      (∀ b o, b ≠ e → b ≠ it → s.heap.get? b = some o → h'.get? b = some o) → Q (some (.ref s.heap.objs.size)) { s with heap := h', toks := s.toks + 1 }) :
    wpAny (model prog w) A (pyNext (.ref e)) Q E s := by
  have hT : s.TypeIs (.ref e) "enumerate" := ⟨_, he, rfl⟩
  unfold pyNext
  refine wpAny_bind (wpAny_attempt (wpAny_callSpecial?_slot (name := Str.ofString "__next__") hT F.slot_enumerate_next (wpAny_call_entry F.slot_enumerate_next hT F.entry_enumerate_next ?_ (F.args_enumerate_next_1 _))))
  obtain ⟨hp, g, d, tk, os⟩ := s
  show wpAny _ _ (field (.ref e) 2 >>= _) _ _ _
  refine wpAny_bind (wpAny_field he rfl (x := .ref it) rfl ?_)
  refine wpAny_bind (nextT a b hx fun h1 a1 s1 => ?_)
  replace s1 : Heap.SameBut it hp h1 := s1
  have e1 : IsEnum h1 e it i old := (s1.2 e ne).trans he
  show wpAny _ _ (field (.ref e) 3 >>= _) _ _ ⟨h1, g, d, tk, os⟩
  refine wpAny_bind (wpAny_field e1 rfl (x := rawInt i) rfl ?_)
  show wpAny _ _ (field (.ref e) 4 >>= _) _ _ ⟨h1, g, d, tk, os⟩
  refine wpAny_bind (wpAny_field e1 rfl (x := .none) rfl ?_)
  show wpAny _ _ (mkInt i >>= _) _ _ ⟨h1, g, d, tk, os⟩
  refine wpAny_bind (wpAny_mkInt ?_)
  show wpAny _ _ (setField (.ref e) 3 (rawInt ((i : Int) + 1)) >>= _) _ _ ⟨h1, g, d, tk + 1, os⟩
  refine wpAny_bind (wpAny_setField_rec e1 (by simp) fun h2 e2 s2 => ?_)
  replace s2 : Heap.SameBut e h1 h2 := s2
  replace e2 : IsEnum h2 e it ((i : Int) + 1) old := e2
  show wpAny _ _ (setField (.ref e) 4 .none >>= _) _ _ ⟨h2, g, d, tk + 1, os⟩
  refine wpAny_bind (wpAny_setField_rec e2 (by simp) fun h3 e3 s3 => ?_)
  replace s3 : Heap.SameBut e h2 h3 := s3
  replace e3 : IsEnum h3 e it ((i : Int) + 1) old := e3
  show wpAny _ _ (newTuple [.int i tk, x] >>= _) _ _ ⟨h3, g, d, tk + 1, os⟩
  refine wpAny_bind (wpAny_newTuple ?_)
  have e4 : IsEnum (h3.push { cls := .type "tuple", data := .seq #[.int i tk, x] }) e it ((i : Int) + 1) old := Heap.get?_push_of_some _ e3
  generalize hh4 : h3.push { cls := .type "tuple", data := .seq #[.int i tk, x] } = h4 at e4
  have sz : h3.objs.size = hp.objs.size := by rw [s3.1, s2.1, s1.1]
  have el : e < hp.objs.size := Heap.lt_size he
  have t4 : h4.get? hp.objs.size = some { cls := .type "tuple", data := .seq #[.int i tk, x] } := by rw [← hh4, ← sz]; exact Heap.get?_push_size _ rfl
  have z4 : h4.objs.size = hp.objs.size + 1 := by rw [← hh4, Heap.size_push, sz]
  have k4 : ∀ b o, b ≠ e → b ≠ it → hp.get? b = some o → h4.get? b = some o := fun b o n1 n2 hb => by
    rw [← hh4]; exact Heap.get?_push_of_some _ (s3.extBut b o n1 (s2.extBut b o n1 (s1.extBut b o n2 hb)))
  have a4 : h4.IsTupleIter it l (i + 1) := by
    rw [← hh4]; obtain ⟨o, ho, r⟩ := (a1.extBut s2.extBut (Ne.symm ne)).extBut s3.extBut (Ne.symm ne); exact ⟨o, Heap.get?_push_of_some _ ho, r⟩
  show wpAny _ _ (Builtin.SmallTypes.ownedTupleIsFree (.ref e) >>= _) _ _ ⟨h4, g, d, tk + 1, os⟩
  rw [sz]
  clear hh4 e3 s3 e2 s2 e1 s1 a1 sz h3 h2 h1
  refine wpAny_bind ?_
  unfold Builtin.SmallTypes.ownedTupleIsFree
  refine wpAny_bind (wpAny_field e4 rfl (x := .none) rfl (wpAny_pure ?_))
  simp only [if_true]
  refine wpAny_bind (wpAny_rule ?_)
  refine wpAny_bind (wpAny_field e4 rfl (x := old) rfl ?_)
  refine wpAny_bind (wpAny_setField_rec e4 (by simp) fun h5 e5 s5 => ?_)
  replace s5 : Heap.SameBut e h4 h5 := s5
  replace e5 : IsEnum h5 e it ((i : Int) + 1) x := e5
  show wpAny _ _ (Builtin.SmallTypes.ownedTupleHandOut (.ref e) (.ref hp.objs.size) >>= _) _ _ ⟨h5, g, d, tk + 1, os⟩
  refine wpAny_bind ?_
  unfold Builtin.SmallTypes.ownedTupleHandOut
  refine wpAny_bind (wpAny_setField_rec e5 (by simp) fun h6 e6 s6 => ?_)
  replace s6 : Heap.SameBut e h5 h6 := s6
  replace e6 : IsEnumOut h6 e it ((i : Int) + 1) x hp.objs.size := e6
  refine wpAny_setField_rec e6 (by simp) fun h7 e7 s7 => ?_
  replace s7 : Heap.SameBut e h6 h7 := s7
  replace e7 : IsEnumOut h7 e it ((i : Int) + 1) x hp.objs.size := e7
  refine wpAny_bind (wpAny_letGo (wpAny_pure ⟨_, rfl, wpAny_pure (q h7 e7 ?_ ?_ ?_ ?_)⟩))
  · exact ((a4.extBut s5.extBut (Ne.symm ne)).extBut s6.extBut (Ne.symm ne)).extBut s7.extBut (Ne.symm ne)
  · exact s7.extBut _ _ (Nat.ne_of_gt el) (s6.extBut _ _ (Nat.ne_of_gt el) (s5.extBut _ _ (Nat.ne_of_gt el) t4))
  · rw [s7.1, s6.1, s5.1, z4]
  · exact fun b o n1 n2 hb => s7.extBut b o n1 (s6.extBut b o n1 (s5.extBut b o n1 (k4 b o n1 n2 hb)))
theorem enumT_end {e it l : Addr} {i : Nat} {its : Array Value} {old : Value} {Q : Option Value → Shared → Prop} (hh : A.handled = none)
    (he : IsEnum s.heap e it i old) (a : s.heap.IsTupleIter it l i) (b : s.heap.IsTuple l its) (hx : its[i]? = none)
    (q : ∀ h', Heap.ExtBut it s.heap h' → Q none { s with heap := h' }) : wpAny (model prog w) A (pyNext (.ref e)) Q E s := by
  have hT : s.TypeIs (.ref e) "enumerate" := ⟨_, he, rfl⟩
  unfold pyNext
  refine wpAny_bind (wpAny_attempt (wpAny_callSpecial?_slot (name := Str.ofString "__next__") hT F.slot_enumerate_next (wpAny_call_entry F.slot_enumerate_next hT F.entry_enumerate_next ?_ (F.args_enumerate_next_1 _))))
  show wpAny _ _ (field (.ref e) 2 >>= _) _ _ _
  refine wpAny_bind (wpAny_field he rfl (x := .ref it) rfl ?_)
  refine wpAny_bind (nextTend hh a b hx fun h' x k1 k2 => ?_)
  obtain ⟨o, o1, o2⟩ := k2
  refine wpAny_bind (wpAny_isInstance (T := "StopIteration") (b := true) ⟨o, o1, o2⟩ isSubtype_stop ?_)
  exact wpAny_pure (q _ k1)
theorem enumT_new (l : Addr) (its : Array Value) (n : Nat) (dct : Option Addr) (sl : Array (Option Value)) :
    Meets (Builtin.«enumerate.__new__» ⟨[.type "enumerate", .ref l], []⟩) (fun _ R s => s.heap.get? l = some { cls := .type "tuple", dict := dct, data := .seq its n, slots := sl } ∧
      R (.ok (.ret (.ref (s.heap.push { cls := .type "tuple_iterator", data := .fields #[.ref l, .int 0 0] }).objs.size)))
        { s with heap := (s.heap.push { cls := .type "tuple_iterator", data := .fields #[.ref l, .int 0 0] }).push { cls := .type "enumerate", data := .fields #[.none, .bool false, .ref s.heap.objs.size, rawInt 0, .none, .none] } }) :=
  .of_wp fun prog w A R s h => by
    obtain ⟨hp, g, d, tk, os⟩ := s; obtain ⟨hl, h⟩ := h
    have hsub := sub_enumerate
    have hL : Heap.IsTuple (Shared.heap ⟨hp, g, d, tk, os⟩) l its := ⟨_, hl, rfl, n, rfl⟩
    wp_walk using wpAny_loadPart' hl
    refine wpAny_stack_any fun st => wpAny_pure ?_
    split
    · rename_i c _ _ _ _ _
      cases (c == Value.type "enumerate")
      all_goals
        wp_walk using wpAny_loadPart' hl, wpAny_pyIter_tuple hL
        exact ⟨_, rfl, h⟩
    · wp_walk using wpAny_loadPart' hl, wpAny_pyIter_tuple hL
      exact ⟨_, rfl, h⟩
theorem call_enumT {l : Addr} {its : Array Value} {Q : Value → Shared → Prop} (hL : s.heap.IsTuple l its)
    (h : ∀ h', IsEnum h' (s.heap.objs.size + 1) s.heap.objs.size 0 .none → h'.IsTupleIter s.heap.objs.size l 0 → h'.objs.size = s.heap.objs.size + 2 →
      (∀ b o, s.heap.get? b = some o → h'.get? b = some o) → Q (.ref (s.heap.objs.size + 1)) { s with heap := h' }) :
    wpAny (model prog w) A (call (.type "enumerate") [.ref l]) Q E s := by
  obtain ⟨⟨c, dct, dt, sl⟩, hl, hc, n, hd⟩ := hL
  replace hc : c = .type "tuple" := hc
  replace hd : dt = .seq its n := hd
  subst hc hd
  refine callType_new F.called_enumerate (by decide) (F.typeCall_enumerate_1 _) (F.newCall_enumerate_1 _) (fun obj => F.args_object_init_2 obj _) F.entry_enumerate_new (enumT_new l its n dct sl) ⟨hl, ?_⟩
  have hz : (s.heap.push { cls := .type "tuple_iterator", data := .fields #[.ref l, .int 0 0] }).objs.size = s.heap.objs.size + 1 := Heap.size_push ..
  show _ ∧ _
  rw [hz]
  have he : IsEnum ((s.heap.push { cls := .type "tuple_iterator", data := .fields #[.ref l, .int 0 0] }).push
      { cls := .type "enumerate", data := .fields #[.none, .bool false, .ref s.heap.objs.size, rawInt 0, .none, .none] }) (s.heap.objs.size + 1) s.heap.objs.size 0 .none := by
    have := Heap.get?_push_size (s.heap.push { cls := .type "tuple_iterator", data := .fields #[.ref l, .int 0 0] })
      (o := { cls := .type "enumerate", data := .fields #[.none, .bool false, .ref s.heap.objs.size, rawInt 0, .none, .none] }) rfl
    rw [hz] at this; exact this
  refine ⟨⟨_, he, rfl⟩, h _ he ⟨_, Heap.get?_push_of_some _ (Heap.get?_push_size _ rfl), rfl, rfl⟩ (by rw [Heap.size_push, hz]) fun b o x => Heap.get?_push_of_some _ (Heap.get?_push_of_some _ x)⟩
end
end L2
end
section
set_option Elab.async false
set_option linter.all false
set_option maxRecDepth 100000
namespace L2
open PySem PySem.Spec PyProof.Rows
def Iet (K : PySem.W.Frag) (a : Addr) : It :=
  ⟨fun i H => ∃ xs x, SqT K H a xs ∧ xs[i]? = some x, fun i H x H' => ∃ p v, H p = none ∧ x = .ref p ∧ H' = upd H p (.tup [.int i, v]) ∧ ∀ xs, SqT K H a xs → xs[i]? = some v, fun i H => ∃ xs, SqT K H a xs ∧ xs.length ≤ i⟩
theorem turn_enumT {P : Program} {w : World} {K : PySem.W.Frag} {elts : List Expr} {x1} {pos : Pos} (a e it : Addr) (hne : e ≠ it) :
    Turn P w K (.Tuple elts x1 pos) (Iet K a) [e, it] e (fun i h => (∃ old, IsEnum h e it (i : Int) old) ∧ h.IsTupleIter it a i) where
  mem := by simp
  obj := fun i h st b hb => by
    obtain ⟨⟨old, he⟩, o, ho, hc, hd⟩ := st
    rcases List.mem_cons.mp hb with rfl | hb
    · refine ⟨_, he, fun v q => ?_⟩
      have q' : Data.fields _ = Data.cell v := q
      cases q'
    · obtain rfl : b = it := by simpa using hb
      exact ⟨o, ho, fun v q => by rw [hd] at q; cases q⟩
  keep := fun i h h' st k => by
    obtain ⟨⟨old, he⟩, o, ho, r⟩ := st
    exact ⟨⟨old, k e (by simp) _ he⟩, o, k it (by simp) o ho, r⟩
  item := by
    intro X hP hw hK hc i pins s σ H E I hf st hg
    subst hP hw hK
    obtain ⟨xs, x, hq, hx⟩ := hg
    obtain ⟨⟨old, he⟩, hit⟩ := st
    obtain ⟨its, rv, p, hz⟩ := I.tuple hq
    obtain ⟨u, hu, ru⟩ := rv.get hx
    obtain ⟨f0, f1, f2, f3, f4, f5⟩ := hf e (by simp)
    obtain ⟨g0, g1, g2, g3, g4, g5⟩ := hf it (by simp)
    refine enumT_item he hit (show s.heap.IsTuple a its.toArray from p) (x := u) (by simpa using hu) hne fun h1 ho hi ht hs k1 => ⟨_, rfl, ?_⟩
    have he' : e < s.heap.objs.size := Heap.lt_size he
    have hi' : it < s.heap.objs.size := by obtain ⟨o, q, _⟩ := hit; exact Heap.lt_size q
    refine wpAny_letOwnedTupleGo_enum (s := { s with heap := h1, toks := s.toks + 1 }) ho fun h2 hE sb => ?_
    have k2 : ∀ b o, b ≠ e → b ≠ it → s.heap.get? b = some o → h2.get? b = some o := fun b o n1 n2 q => sb.extBut b o n1 (k1 b o n1 n2 q)
    have ht2 : h2.get? s.heap.objs.size = some { cls := .type "tuple", data := .seq #[.int i s.toks, u] } := sb.extBut _ _ (Nat.ne_of_gt he') ht
    have hsz2 : h2.objs.size = s.heap.objs.size + 1 := by rw [sb.1]; exact hs
    have hHs : H s.heap.objs.size = none := I.hok.fresh (Nat.le_refl _)
    have nt : ∀ b o, H b = some o → b ≠ e ∧ b ≠ it := fun b o q => ⟨(fun z => by rw [z, f0] at q; cases q), (fun z => by rw [z, g0] at q; cases q)⟩
    have hok : HOk X.prog X.w (upd H s.heap.objs.size (.tup [.int i, x])) h2 := by
      have lift : ∀ b o, H b = some o → ObjOk X.prog X.w (upd H s.heap.objs.size (.tup [.int i, x])) h2 b o := fun b o q =>
        (I.hok b o q).stay (fun c v hcv r => k2 c v (by
          rcases hcv with z | z
          · rw [z]; exact (nt b o q).1
          · exact (nt c _ z).1) (by
          rcases hcv with z | z
          · rw [z]; exact (nt b o q).2
          · exact (nt c _ z).2) r) (fun c r => by rw [upd_ne (ne_of_none r hHs)]; exact r) fun c ys r => by rw [upd_ne (ne_of_none r hHs)]; exact r
      intro b o q
      by_cases eb : b = s.heap.objs.size
      · subst eb
        rw [upd_same] at q
        cases q
        exact ⟨by show 2 ≤ sizeLine; decide, [.int i s.toks, u], .cons ⟨_, rfl⟩ (.cons ru .nil), ⟨_, ht2, rfl, _, rfl⟩⟩
      · rw [upd_ne eb] at q
        exact lift b o q
    have I2 : Inv X pins σ (upd H s.heap.objs.size (.tup [.int i, x])) { s with heap := h2, toks := s.toks + 1 } := by
      refine I.step (g' := s.gens) (d' := s.drawn) (ch := [e, it]) (fun b hb => ?_) (fun b o hL hb hcb q n => ?_) (fun b o hL hb hcb q n => ?_) (fun b o hcb q n => ?_) (fun b o hcb q => ?_) (fun b ys q => by rw [upd_ne (ne_of_none q hHs)]; exact q) (fun b o u q => by rw [upd_ne (ne_of_none q hHs)]; exact q)
        (fun b ps q => ⟨#[], by rw [upd_ne (ne_of_none q hHs), q]; simp⟩) (fun m hm => ?_) hok I.bare
      · rcases List.mem_cons.mp hb with rfl | hb
        · exact ⟨f3, f1, f4, f5⟩
        · obtain rfl : b = it := by simpa using hb
          exact ⟨g3, g1, g4, g5⟩
      · simp only [List.mem_cons, List.not_mem_nil, or_false, not_or] at hcb
        exact k2 b o hcb.1 hcb.2 q
      · simp only [List.mem_cons, List.not_mem_nil, or_false, not_or] at hcb
        exact ⟨o.slots, k2 b o hcb.1 hcb.2 q⟩
      · rw [upd_ne (Nat.ne_of_lt (Heap.lt_size q))]; exact n
      · simp only [List.mem_cons, List.not_mem_nil, or_false, not_or] at hcb
        exact ⟨o, k2 b o hcb.1 hcb.2 q⟩
      · obtain ⟨o, es, ep, q, r⟩ := hm
        exact ⟨o, es, ep, k2 _ o (Ne.symm f1) (Ne.symm g1) q, r⟩
    refine ⟨.ref s.heap.objs.size, _, I2, rfl, ⟨_, x, hHs, rfl, rfl, fun ys hy => by rw [I.tuple_inj hy hq]; exact hx⟩, ⟨⟨_, by have := hE; rw [show ((i : Int) + 1) = ((i + 1 : Nat) : Int) by omega] at this; exact this⟩, ?_⟩, fun b hb => ?_⟩
    · obtain ⟨o, q, r⟩ := hi
      exact ⟨o, sb.extBut _ _ (Ne.symm hne) q, r⟩
    · rcases List.mem_cons.mp hb with rfl | hb
      · rw [upd_ne (Nat.ne_of_lt he')]; exact f0
      · obtain rfl : b = it := by simpa using hb
        rw [upd_ne (Nat.ne_of_lt hi')]; exact g0
  done := by
    intro X hP hw hK hc i pins s σ H E I hf st hg
    subst hP hw hK
    obtain ⟨xs, hq, hx⟩ := hg
    obtain ⟨⟨old, he⟩, hit⟩ := st
    obtain ⟨its, rv, p, hz⟩ := I.tuple hq
    obtain ⟨g0, g1, g2, g3, g4, g5⟩ := hf it (by simp)
    have hl := rv.length
    exact enumT_end (I.ok.hd hc) he hit (show s.heap.IsTuple a its.toArray from p) (by simp; omega) fun h' eb => ⟨rfl, I.turned (t' := s.toks) (fun b o hb q => eb b o hb q) g0 g1 g3 g4 g5⟩
  self := fun _ _ _ _ _ st h => by
    obtain ⟨⟨old, he⟩, _⟩ := st
    exact wpAny_pyIter_enum he h
section
variable {X : Cx}
def iEnumT (K : PySem.W.Frag) (ta : TA) : TI := fun σ H R => ta σ H fun vs H1 => ∃ a, vs = [.ref a] ∧ (∃ xs, SqT K H1 a xs) ∧ R (Iet K a) H1
theorem pi_enumT {l : Expr} {ta : TA} {p pos tpos : Pos} {elts : List Expr} {x1} (hg : Gl X "enumerate") (hm : X.mg "enumerate" = none) (ha : PA X [l] ta) (hs : starEach [l] X.env = [(false, eval l X.env)] := by rfl) :
    PI X (.Tuple elts x1 tpos) (.Call (.Name "enumerate" p) [l] [] pos) (iEnumT X.K ta) := by
  intro pins s σ H R I h
  refine Call_ (ld_blt I hg hm (u := .type "enumerate") (by decide +kernel) (PyProof.Rows.callWith_type1 (thn (ha pos pins s σ H _ I h) fun us s1 ⟨vs, H1, I1, r1, q1⟩ => ?_) hs rfl))
  obtain ⟨a, rfl, ⟨xs, hq⟩, q⟩ := q1
  obtain ⟨u, rfl, ru⟩ := vals1 r1
  cases ru
  obtain ⟨its, rv, pl, hz⟩ := I1.tuple hq
  refine call_enumT (show s1.heap.IsTuple a its.toArray from pl) fun h' he hit hsz hk => ?_
  refine wpAny_pyIter_enum he ?_
  have I2 : Inv X pins σ H1 { s1 with heap := h' } := I1.kept (t' := s1.toks) hk
  refine ⟨_, _, _, _, H1, rfl, I2, turn_enumT a (s1.heap.objs.size + 1) s1.heap.objs.size (Nat.succ_ne_self _), ⟨⟨_, he⟩, hit⟩, fun b hb => ?_, q⟩
  rcases List.mem_cons.mp hb with rfl | hb
  · exact I1.fpOk (Nat.le_succ _) (I1.hok.fresh (Nat.le_succ _))
  · obtain rfl : b = s1.heap.objs.size := by simpa using hb
    exact I1.fpOk (Nat.le_refl _) (I1.hok.fresh (Nat.le_refl _))
end
theorem for_enumT {K : PySem.W.Frag} {a : Addr} {xs : List V} {g : TG} {tb : TS} {D : Ends} {σ : St} {H : Hp} (Pv : Nat → St → Hp → Prop) (h0 : Pv 0 σ H) (hl : ∀ i σ H, i ≤ xs.length → Pv i σ H → SqT K H a xs)
    (hs : ∀ i x σ H p, xs[i]? = some x → Pv i σ H → H p = none → g (.ref p) σ (upd H p (.tup [.int i, x])) fun σ2 H2 => tb { D with nx := Pv (i + 1), ct := Pv (i + 1), bk := D.nx } σ2 H2) (hd : ∀ σ H, Pv xs.length σ H → D.nx σ H) :
    ∃ W : Nat → Nat → St → Hp → Prop, (∃ m, W 0 m σ H) ∧ ∀ i m σ H, W i m σ H →
      ((Iet K a).stop i H ∧ D.nx σ H) ∨ ((Iet K a).go i H ∧ ∃ N : St → Hp → Prop, (∀ σ' H', N σ' H' → ∃ m', m' < m ∧ W (i + 1) m' σ' H') ∧ ∀ x H', (Iet K a).yld i H x H' → g x σ H' fun σ2 H2 => tb { D with nx := N, ct := N, bk := D.nx } σ2 H2) := by
  refine ⟨fun i m σ H => m = xs.length - i ∧ i ≤ xs.length ∧ Pv i σ H, ⟨xs.length, by simp, Nat.zero_le _, h0⟩, ?_⟩
  rintro i m σ H ⟨rfl, hi, p⟩
  have q := hl i σ H hi p
  by_cases hlt : i < xs.length
  · refine .inr ⟨⟨xs, xs[i], q, by simp [hlt]⟩, Pv (i + 1), fun σ' H' p' => ⟨xs.length - (i + 1), by omega, rfl, hlt, p'⟩, fun x H' y => ?_⟩
    obtain ⟨r, v, hr, rfl, rfl, y⟩ := y
    exact hs i v σ H r (y xs q) p hr
  · have e : i = xs.length := by omega
    subst e
    exact .inl ⟨⟨xs, q, Nat.le_refl _⟩, hd σ H p⟩
structure TopD (K : PySem.W.Frag) (w : World) (a : Addr) (kvs : List (Str × V)) : Prop where
  ex : ∃ (es : Array DictEntry) (n : Nat), K.lookup a = some ⟨.type "dict", none, .dict es n, #[]⟩ ∧ PySem.W.KeysLit w.params es.toList ∧ ∀ x, RelO (kvs.lookup x) (findBy Value.isStrOf es x)
  lo : (a == sysModules) = false
section
variable {X : Cx}
def rInTop (K : PySem.W.Frag) (w : World) : R2 := fun x y H Q => ∃ z a kvs, x = .str z ∧ y = .ref a ∧ TopD K w a kvs ∧ Q (.bl (kvs.lookup z).isSome) H
def rNotInTop (K : PySem.W.Frag) (w : World) : R2 := fun x y H Q => ∃ z a kvs, x = .str z ∧ y = .ref a ∧ TopD K w a kvs ∧ Q (.bl (!(kvs.lookup z).isSome)) H
theorem RelO.isSome {o : Option V} {u : Option Value} (r : RelO o u) : u.isSome = o.isSome := by
  cases o <;> cases u <;> first | rfl | exact r.elim
theorem op_in_top : OpR X (compareOp .In) (rInTop X.K X.w) := by
  intro pins s σ H x y v u Q I rx ry h
  obtain ⟨z, a, kvs, rfl, rfl, T, q⟩ := h
  obtain ⟨t, rfl⟩ := rx
  cases ry
  obtain ⟨es, n, h1, h2, h3⟩ := T.ex
  refine wpAny_in_of (strKind_is X.prog X.w z t) T.lo (PySem.W.mapOf_K (prog := X.prog) I.kIn h1 h2) ?_
  refine ⟨.bl _, H, I.tok _, rfl, ?_⟩
  rw [(h3 z).isSome]
  exact q
theorem op_notin_top : OpR X (compareOp .NotIn) (rNotInTop X.K X.w) := by
  intro pins s σ H x y v u Q I rx ry h
  obtain ⟨z, a, kvs, rfl, rfl, T, q⟩ := h
  obtain ⟨t, rfl⟩ := rx
  cases ry
  obtain ⟨es, n, h1, h2, h3⟩ := T.ex
  refine wpAny_notIn_of (strKind_is X.prog X.w z t) T.lo (PySem.W.mapOf_K (prog := X.prog) I.kIn h1 h2) ?_
  refine ⟨.bl _, H, I.tok _, rfl, ?_⟩
  rw [(h3 z).isSome]
  exact q
def rIxTop (K : PySem.W.Frag) (w : World) : R2 := fun x y H Q => ∃ z a kvs v, y = .str z ∧ x = .ref a ∧ TopD K w a kvs ∧ kvs.lookup z = some v ∧ Q v H
theorem ix_top : IxR X (rIxTop X.K X.w) := by
  intro value slice pins s σ H x y v u Q I rx ry h hs
  obtain ⟨z, a, kvs, o, rfl, rfl, T, hl, q⟩ := h
  obtain ⟨t, rfl⟩ := ry
  cases rx
  obtain ⟨es, n, h1, h2, h3⟩ := T.ex
  have r := h3 z
  rw [hl] at r
  obtain ⟨u, e, ru⟩ := r.some_of
  have hm := PySem.W.mapOf_K (prog := X.prog) I.kIn h1 h2
  exact tail_any hm.typeIs slot_dict_getitem.lookup (wpAny_getItem_of (strKind_is X.prog X.w z t) hm e ⟨o, H, I.tok _, ru, q⟩) hs
end
end L2
end
section
set_option Elab.async false
set_option linter.all false
set_option maxRecDepth 100000
namespace D
open PySem
inductive W where
  | non | bl (b : Bool) | int (i : Int) | str (x : Str) | tup (xs : List W) | fz (xs : List W) | ref (n : Nat)
  deriving Inhabited
inductive O where
  | lst (xs : List W) | ins (c : Nat) (fs : List (Str × W))
abbrev Mem := List O
abbrev Loc := List (Option W)
inductive R (α : Type) where
  | no
  | ok (a : α) (m : Mem)
@[inline] def R.bind {α β : Type} (x : R α) (f : α → Mem → R β) : R β := match x with
  | .no => .no
  | .ok a m => f a m
inductive B where
  | len | abs | max | min | divmod | all | any | list | tuple | int | sorted | sum
  deriving DecidableEq
mutual
inductive T where
  | var (i : Nat) | tup (ts : Ts)
inductive Ts where
  | nil | cons (t : T) (ts : Ts)
end
mutual
inductive E where
  | var (i : Nat) | cst (w : W)
  | bin (op : Operator) (a b : E) | neg (a : E) | not (a : E) | and (a b : E) | or (a b : E)
  | cmp (op : CmpOp) (a b : E) | chain (o1 o2 : CmpOp) (a b c : E)
  | ife (t a b : E) | tup (es : Es) | lst (es : Es) | idx (a b : E)
  | slc (a : E) (lo hi : Oe)
  | call (f : Nat) (es : Es) | blt (b : B) (es : Es) | isI (a : E) (t : String)
  | meth (o : E) (m : String) (es : Es)
  | comp (g : G)
  | rng (a : E) | rng2 (a b : E) | enm (a : E) | zip (es : Es) | lrng (a : E)
inductive Es where
  | nil | cons (e : E) (es : Es)
inductive Oe where
  | none | some (e : E)
inductive G where
  | elt (e : E) | gen (t : T) (js : List Nat) (it : E) (ifs : Es) (rest : G)
end
mutual
inductive A where
  | pt (t : T) | sub (o i : E) | tup (l : As)
inductive As where
  | nil | cons (a : A) (l : As)
end
mutual
inductive S where
  | asg (t : A) (e : E) | aug (i : Nat) (op : Operator) (e : E) | expr (e : E) | ret (e : E) | retN
  | ife (t : E) (a b : Ss) | for_ (t : T) (it : E) (b : Ss) | while_ (t : E) (b : Ss) | pass | brk | cont | never
inductive Ss where
  | nil | cons (s : S) (r : Ss)
end
def lim : Nat := 1000000
def new (o : O) (m : Mem) : R W := .ok (.ref m.length) (m ++ [o])
def getL (m : Mem) : W → Option (List W)
  | .ref n => match m[n]? with
    | some (.lst xs) => some xs
    | _ => none
  | .fz xs => some xs
  | _ => none
def getS (m : Mem) : W → Option (List W)
  | .tup xs => some xs
  | w => getL m w
def allD {α : Type} (f : W → Option α) : List W → Option (List α)
  | [] => some []
  | x :: xs => match f x with
    | none => none
    | some d => match allD f xs with
      | none => none
      | some ds => some (d :: ds)
def toD : Nat → Mem → W → Option PyData
  | 0, _, _ => none
  | n + 1, m, w => match w with
    | .non => some .none
    | .bl b => some (.bool b)
    | .int i => some (.int i)
    | .str x => if x.cps.all (· < 0x110000) then some (.str x) else none
    | .tup xs => (allD (toD n m) xs).map .tuple
    | .fz xs => (allD (toD n m) xs).map .list
    | .ref a => match getL m (.ref a) with
      | some xs => (allD (toD n m) xs).map .list
      | none => none
def eqW (m : Mem) (x y : W) : R Bool := match toD 60 m x, toD 60 m y with
  | some d, some e => .ok (PyData.eqv d e) m
  | _, _ => .no
def truthy (m : Mem) : W → R Bool
  | .non => .ok false m
  | .bl b => .ok b m
  | .int i => .ok (i != 0) m
  | .str x => if x.length ≤ lim then .ok ((x.length : Int) != 0) m else .no
  | .tup xs => .ok (!xs.isEmpty) m
  | .fz xs => .ok (!xs.isEmpty) m
  | .ref n => match getL m (.ref n) with
    | some xs => .ok (!xs.isEmpty) m
    | none => .no
def mulOk (i j : Int) : Bool := (decide (-(2 ^ 64) < i) && decide (i < 2 ^ 64)) || (decide (-(2 ^ 64) < j) && decide (j < 2 ^ 64))
def binop (op : Operator) (x y : W) (m : Mem) : R W := match op, x, y with
  | .Add, .int i, .int j => .ok (.int (i + j)) m
  | .Sub, .int i, .int j => .ok (.int (i - j)) m
  | .Mult, .int i, .int j => if mulOk i j then .ok (.int (i * j)) m else .no
  | .FloorDiv, .int i, .int j => if 0 < j ∧ j < 1073741824 then .ok (.int (i / j)) m else .no
  | .Mod, .int i, .int j => if 0 < j then .ok (.int (i % j)) m else .no
  | .Pow, .int i, .int j => if 0 ≤ j ∧ j ≤ 1000000 ∧ i.natAbs < 2 ^ 64 then .ok (.int (i ^ j.toNat)) m else .no
  | .Add, .tup xs, .tup ys => if xs.length + ys.length ≤ lim then .ok (.tup (xs ++ ys)) m else .no
  | .Add, .ref a, .ref b => match m[a]?, m[b]? with
    | some (.lst xs), some (.lst ys) => if xs.length + ys.length ≤ lim then new (.lst (xs ++ ys)) m else .no
    | _, _ => .no
  | _, _, _ => .no
def memW (m : Mem) (x : W) (ys : List W) : R Bool := match toD 60 m x, allD (toD 60 m) ys with
  | some d, some es => .ok (es.any fun e => PyData.eqv e d) m
  | _, _ => .no
def cmpop (op : CmpOp) (x y : W) (m : Mem) : R Bool := match op with
  | .Eq => eqW m x y
  | .NotEq => (eqW m x y).bind fun b m => .ok (!b) m
  | .Lt => match x, y with | .int i, .int j => .ok (decide (i < j)) m | _, _ => .no
  | .LtE => match x, y with | .int i, .int j => .ok (decide (i ≤ j)) m | _, _ => .no
  | .Gt => match x, y with | .int i, .int j => .ok (decide (j < i)) m | _, _ => .no
  | .GtE => match x, y with | .int i, .int j => .ok (decide (j ≤ i)) m | _, _ => .no
  | .In => match getS m y with | some ys => memW m x ys | none => .no
  | .NotIn => match getS m y with | some ys => (memW m x ys).bind fun b m => .ok (!b) m | none => .no
  | _ => .no
def idxop (x y : W) (m : Mem) : R W := match y with
  | .int i => match getS m x with
    | some xs => match L2.atI xs i with
      | some w => .ok w m
      | none => .no
    | none => .no
  | _ => .no
def cutW (xs : List W) (lo hi : Option Int) : List W := (xs.drop (HT.sIx xs.length 0 lo)).take (HT.sIx xs.length xs.length hi - HT.sIx xs.length 0 lo)
def slcop (x : W) (lo hi : Option Int) (m : Mem) : R W := match x with
  | .tup xs => if HT.sIx xs.length 0 lo = 0 ∧ HT.sIx xs.length xs.length hi = xs.length then .no else .ok (.tup (cutW xs lo hi)) m
  | .ref n => match getL m (.ref n) with
    | some xs => new (.lst (cutW xs lo hi)) m
    | none => .no
  | _ => .no
def setop (o i v : W) (m : Mem) : R Unit := match o, i with
  | .ref n, .int k => match m[n]? with
    | some (.lst xs) => match L2.ixN xs.length k with
      | some j => .ok () (m.set n (.lst (xs.set j v)))
      | none => .no
    | _ => .no
  | _, _ => .no
def bools : List W → Option (List Bool)
  | [] => some []
  | .bl b :: r => (bools r).map (b :: ·)
  | _ :: _ => none
def isTy (m : Mem) (t : String) : W → Option Bool
  | .non => some (t == "NoneType")
  | .bl _ => some (t == "bool" || t == "int")
  | .int _ => some (t == "int")
  | .str _ => some (t == "str")
  | .tup _ => some (t == "tuple")
  | .fz _ => some (t == "list")
  | .ref n => match m[n]? with
    | some (.lst _) => some (t == "list")
    | _ => none
def runT {α : Type} (n : Nat) (ans : Nat → Nat → Bool) : PySem.W.KasT α → Option α
  | .ret a => some a
  | .ask i j k => if i < n ∧ j < n then runT n ans (k (ans i j)) else none
def intsW : List W → Option (List Int)
  | [] => some []
  | .int b :: r => (intsW r).map (b :: ·)
  | _ :: _ => none
def intTup : W → Option (List Int)
  | .tup xs => intsW xs
  | _ => none
def sortT (ys : List W) (tss : List (List Int)) : Option (List W) :=
  if 0 < (tss.headD []).length ∧ (tss.all fun t => t.length == (tss.headD []).length) = true ∧ 2 ≤ ys.length ∧ ys.length < 64 then
    match runT ys.length (fun i j => HT.lexLt (tss.getD i []) (tss.getD j [])) (PySem.W.kas_sort ys.length) with
    | some pm => if pm.size ≤ 64 then some (pm.toList.map fun i => ys.getD i .non) else none
    | none => none
  else none
def bltop (b : B) (xs : List W) (m : Mem) : R W := match b, xs with
  | .len, [x] => match x with
    | .str z => if z.length ≤ lim then .ok (.int z.length) m else .no
    | x => match getS m x with
      | some ys => .ok (.int ys.length) m
      | none => .no
  | .abs, [.int i] => .ok (.int (if i < 0 then -i else i)) m
  | .max, [.int i, .int j] => .ok (.int (if j > i then j else i)) m
  | .min, [.int i, .int j] => .ok (.int (if j < i then j else i)) m
  | .divmod, [.int i, .int j] => if 0 < j ∧ j < 1073741824 then .ok (.tup [.int (i / j), .int (i % j)]) m else .no
  | .all, [x] => match getL m x with
    | some ys => match bools ys with
      | some bs => .ok (.bl (bs.all id)) m
      | none => .no
    | none => .no
  | .any, [x] => match getL m x with
    | some ys => match bools ys with
      | some bs => .ok (.bl (bs.any id)) m
      | none => .no
    | none => .no
  | .list, [x] => match getS m x with
    | some ys => new (.lst ys) m
    | none => .no
  | .tuple, [x] => match getS m x with
    | some ys => .ok (.tup ys) m
    | none => .no
  | .int, [.int i] => .ok (.int i) m
  | .int, [.bl b] => .ok (.int (if b then 1 else 0)) m
  | .sorted, [x] => match getL m x with
    | some ys => match allD intTup ys with
      | some tss => match sortT ys tss with
        | some zs => new (.lst zs) m
        | none => .no
      | none => .no
    | none => .no
  | _, _ => .no
def methop (o : W) (name : String) (xs : List W) (m : Mem) : R W := match o with
  | .ref n => match m[n]? with
    | some (.lst ys) =>
      if name = "append" then match xs with
        | [x] => if ys.length < lim then .ok .non (m.set n (.lst (ys ++ [x]))) else .no
        | _ => .no
      else if name = "clear" then match xs with
        | [] => .ok .non (m.set n (.lst []))
        | _ => .no
      else if name = "reverse" then match xs with
        | [] => .ok .non (m.set n (.lst ys.reverse))
        | _ => .no
      else if name = "pop" then match xs with
        | [] => match ys[ys.length - 1]? with
          | some y => .ok y (m.set n (.lst ys.dropLast))
          | none => .no
        | [.int i] => if -(2 ^ 63) ≤ i ∧ i < 2 ^ 63 then match seqIndex? i ys.length with
          | some k => match ys[k]? with
            | some y => .ok y (m.set n (.lst (ys.eraseIdx k)))
            | none => .no
          | none => .no else .no
        | _ => .no
      else if name = "extend" then match xs with
        | [.ref b] => match m[b]? with
          | some (.lst zs) => if ys.length + zs.length ≤ lim then .ok .non (m.set n (.lst (ys ++ zs))) else .no
          | _ => .no
        | _ => .no
      else if name = "insert" then match xs with
        | [.int i, y] => if 0 ≤ i ∧ i ≤ ys.length ∧ ys.length < lim then .ok .non (m.set n (.lst (ys.take i.toNat ++ [y] ++ ys.drop i.toNat))) else .no
        | _ => .no
      else .no
    | _ => .no
  | _ => .no
inductive Kd where
  | lst | no
  deriving DecidableEq
def kdOf (m : Mem) : W → Kd
  | .ref n => match m[n]? with
    | some (.lst _) => .lst
    | _ => .no
  | _ => .no
def clr : List Nat → Loc → Loc
  | [], ρ => ρ
  | j :: r, ρ => clr r (ρ.set j none)
mutual
def bindT : T → W → Loc → Option Loc
  | .var i, w, ρ => some (ρ.set i (some w))
  | .tup ts, w, ρ => match w with
    | .tup xs => bindTs ts xs ρ
    | _ => none
def bindTs : Ts → List W → Loc → Option Loc
  | .nil, xs, ρ => match xs with
    | [] => some ρ
    | _ :: _ => none
  | .cons t ts, xs, ρ => match xs with
    | [] => none
    | x :: xs => match bindT t x ρ with
      | some ρ => bindTs ts xs ρ
      | none => none
end
inductive Src where
  | lst (n : Nat) | tup (xs : List W) | rng (lo : Int) (k : Nat) | enm (s : Src) | zip (ss : List Src)
inductive Nx where
  | bad | fin | it (w : W)
inductive Nxs where
  | bad | fin | its (ws : List W)
mutual
def Src.get : Src → Mem → Nat → Nx
  | .lst n, m, i => match getL m (.ref n) with
    | some xs => match xs[i]? with
      | some w => .it w
      | none => .fin
    | none => .bad
  | .tup xs, _, i => match xs[i]? with
    | some w => .it w
    | none => .fin
  | .rng lo k, _, i => if i < k then .it (.int (lo + i)) else .fin
  | .enm s, m, i => match s.get m i with
    | .it w => .it (.tup [.int i, w])
    | .fin => .fin
    | .bad => .bad
  | .zip ss, m, i => match Src.gets ss m i with
    | .its ws => .it (.tup ws)
    | .fin => .fin
    | .bad => .bad
def Src.gets : List Src → Mem → Nat → Nxs
  | [], _, _ => .its []
  | s :: ss, m, i => match s.get m i, Src.gets ss m i with
    | .bad, _ => .bad
    | _, .bad => .bad
    | .it w, .its ws => .its (w :: ws)
    | _, _ => .fin
end
mutual
def Src.len : Src → Mem → Nat
  | .lst n, m => match getL m (.ref n) with
    | some xs => xs.length
    | none => 0
  | .tup xs, _ => xs.length
  | .rng _ k, _ => k
  | .enm s, m => s.len m
  | .zip ss, m => Src.lens ss m
def Src.lens : List Src → Mem → Nat
  | [], _ => 0
  | s :: ss, m => max (s.len m) (Src.lens ss m)
end
def srcOf (m : Mem) : W → Option Src
  | .tup xs => some (.tup xs)
  | .fz xs => some (.tup xs)
  | .ref n => match getL m (.ref n) with
    | some _ => some (.lst n)
    | none => none
  | _ => none
def srcsOf (m : Mem) : List W → Option (List Src)
  | [] => some []
  | w :: ws => match srcOf m w with
    | none => none
    | some s => match srcsOf m ws with
      | none => none
      | some ss => some (s :: ss)
structure Cx where
  call : Nat → List W → Mem → R W
  fuel : Nat
inductive F where
  | nx (ρ : Loc) | rt (w : W) | bk (ρ : Loc) | ct (ρ : Loc)
def forN (get : Mem → Nat → Nx) (t : T) (body : Loc → Mem → R F) : Nat → Nat → Loc → Mem → R F
  | k, i, ρ, m => match get m i with
    | .bad => .no
    | .fin => .ok (.nx ρ) m
    | .it x => match k with
      | 0 => .no
      | k + 1 => match bindT t x ρ with
        | none => .no
        | some ρ => (body ρ m).bind fun f m => match f with
          | .nx ρ => forN get t body k (i + 1) ρ m
          | .ct ρ => forN get t body k (i + 1) ρ m
          | .bk ρ => .ok (.nx ρ) m
          | .rt w => .ok (.rt w) m
def whileN (c : Loc → Mem → R Bool) (body : Loc → Mem → R F) : Nat → Loc → Mem → R F
  | 0, _, _ => .no
  | k + 1, ρ, m => (c ρ m).bind fun b m => if b then (body ρ m).bind fun f m => match f with
      | .nx ρ => whileN c body k ρ m
      | .ct ρ => whileN c body k ρ m
      | .bk ρ => .ok (.nx ρ) m
      | .rt w => .ok (.rt w) m
    else .ok (.nx ρ) m
def compN (get : Mem → Nat → Nx) (t : T) (test : Loc → Mem → R Bool) (body : Loc → Mem → List W → R (List W × Loc)) : Nat → Nat → Loc → Mem → List W → R (List W × Loc)
  | k, i, ρ, m, acc => match get m i with
    | .bad => .no
    | .fin => .ok (acc, ρ) m
    | .it x => match k with
      | 0 => .no
      | k + 1 => match bindT t x ρ with
        | none => .no
        | some ρ => (test ρ m).bind fun b m => if b then (body ρ m acc).bind fun p m => compN get t test body k (i + 1) p.2 m p.1 else compN get t test body k (i + 1) ρ m acc
mutual
def evE (C : Cx) : E → Loc → Mem → R W
  | .var i, ρ, m => match ρ[i]? with
    | some (some w) => .ok w m
    | _ => .no
  | .cst w, _, m => .ok w m
  | .bin op a b, ρ, m => (evE C a ρ m).bind fun x m => (evE C b ρ m).bind fun y m => binop op x y m
  | .neg a, ρ, m => (evE C a ρ m).bind fun x m => match x with
    | .int i => .ok (.int (-i)) m
    | _ => .no
  | .not a, ρ, m => (evE C a ρ m).bind fun x m => match x with
    | .bl b => .ok (.bl (!b)) m
    | _ => .no
  | .and a b, ρ, m => (evE C a ρ m).bind fun x m => match x with
    | .bl c => if c then evE C b ρ m else .ok (.bl false) m
    | _ => .no
  | .or a b, ρ, m => (evE C a ρ m).bind fun x m => match x with
    | .bl c => if c then .ok (.bl true) m else evE C b ρ m
    | _ => .no
  | .cmp op a b, ρ, m => (evE C a ρ m).bind fun x m => (evE C b ρ m).bind fun y m => (cmpop op x y m).bind fun c m => .ok (.bl c) m
  | .chain o1 o2 a b c, ρ, m => (evE C a ρ m).bind fun x m => (evE C b ρ m).bind fun y m => (cmpop o1 x y m).bind fun k m =>
      if k then (evE C c ρ m).bind fun z m => (cmpop o2 y z m).bind fun k m => .ok (.bl k) m else .ok (.bl false) m
  | .ife t a b, ρ, m => (evT C t ρ m).bind fun c m => if c then evE C a ρ m else evE C b ρ m
  | .tup es, ρ, m => (evEs C es ρ m).bind fun ws m => if ws.length ≤ lim then .ok (.tup ws) m else .no
  | .lst es, ρ, m => (evEs C es ρ m).bind fun ws m => if ws.length ≤ lim then new (.lst ws) m else .no
  | .idx a b, ρ, m => (evE C a ρ m).bind fun x m => (evE C b ρ m).bind fun y m => idxop x y m
  | .slc a lo hi, ρ, m => (evE C a ρ m).bind fun x m => (evO C lo ρ m).bind fun l m => (evO C hi ρ m).bind fun u m => slcop x l u m
  | .call f es, ρ, m => (evEs C es ρ m).bind fun ws m => C.call f ws m
  | .blt b es, ρ, m => (evEs C es ρ m).bind fun ws m => bltop b ws m
  | .isI a t, ρ, m => (evE C a ρ m).bind fun x m => match isTy m t x with
    | some b => .ok (.bl b) m
    | none => .no
  | .meth o name es, ρ, m => (evE C o ρ m).bind fun x m => match kdOf m x with
    | .lst => (evEs C es ρ m).bind fun ws m => methop x name ws m
    | .no => .no
  | .comp g, ρ, m => (evG C g ρ m []).bind fun p m => new (.lst p.1) m
  | .lrng a, ρ, m => (evE C a ρ m).bind fun x m => match x with
    | .int j => if 0 ≤ j ∧ j ≤ 1000000 then new (.lst ((List.range j.toNat).map fun i => W.int (i : Nat))) m else .no
    | _ => .no
  | .rng _, _, _ => .no
  | .rng2 _ _, _, _ => .no
  | .enm _, _, _ => .no
  | .zip _, _, _ => .no
def evEs (C : Cx) : Es → Loc → Mem → R (List W)
  | .nil, _, m => .ok [] m
  | .cons e es, ρ, m => (evE C e ρ m).bind fun w m => (evEs C es ρ m).bind fun ws m => .ok (w :: ws) m
def evO (C : Cx) : Oe → Loc → Mem → R (Option Int)
  | .none, _, m => .ok none m
  | .some e, ρ, m => (evE C e ρ m).bind fun w m => match w with
    | .int i => .ok (some i) m
    | _ => .no
def evT (C : Cx) : E → Loc → Mem → R Bool
  | .and a b, ρ, m => (evT C a ρ m).bind fun c m => if c then evT C b ρ m else .ok false m
  | .or a b, ρ, m => (evT C a ρ m).bind fun c m => if c then .ok true m else evT C b ρ m
  | .not a, ρ, m => (evT C a ρ m).bind fun c m => .ok (!c) m
  | .cmp op a b, ρ, m => (evE C a ρ m).bind fun x m => (evE C b ρ m).bind fun y m => cmpop op x y m
  | .chain o1 o2 a b c, ρ, m => (evE C a ρ m).bind fun x m => (evE C b ρ m).bind fun y m => (cmpop o1 x y m).bind fun k m =>
      if k then (evE C c ρ m).bind fun z m => cmpop o2 y z m else .ok false m
  | .ife t a b, ρ, m => (evT C t ρ m).bind fun c m => if c then evT C a ρ m else evT C b ρ m
  | .var i, ρ, m => R.bind (match ρ[i]? with
      | some (some w) => .ok w m
      | _ => .no) fun w m => truthy m w
  | .cst w, _, m => R.bind (.ok w m) fun w m => truthy m w
  | .bin op a b, ρ, m => R.bind ((evE C a ρ m).bind fun x m => (evE C b ρ m).bind fun y m => binop op x y m) fun w m => truthy m w
  | .neg a, ρ, m => R.bind ((evE C a ρ m).bind fun x m => match x with
      | .int i => .ok (.int (-i)) m
      | _ => .no) fun w m => truthy m w
  | .tup es, ρ, m => R.bind ((evEs C es ρ m).bind fun ws m => if ws.length ≤ lim then .ok (.tup ws) m else .no) fun w m => truthy m w
  | .lst es, ρ, m => R.bind ((evEs C es ρ m).bind fun ws m => if ws.length ≤ lim then new (.lst ws) m else .no) fun w m => truthy m w
  | .idx a b, ρ, m => R.bind ((evE C a ρ m).bind fun x m => (evE C b ρ m).bind fun y m => idxop x y m) fun w m => truthy m w
  | .slc a lo hi, ρ, m => R.bind ((evE C a ρ m).bind fun x m => (evO C lo ρ m).bind fun l m => (evO C hi ρ m).bind fun u m => slcop x l u m) fun w m => truthy m w
  | .call f es, ρ, m => R.bind ((evEs C es ρ m).bind fun ws m => C.call f ws m) fun w m => truthy m w
  | .blt b es, ρ, m => R.bind ((evEs C es ρ m).bind fun ws m => bltop b ws m) fun w m => truthy m w
  | .isI a t, ρ, m => R.bind ((evE C a ρ m).bind fun x m => match isTy m t x with
      | some b => .ok (.bl b) m
      | none => .no) fun w m => truthy m w
  | .meth o name es, ρ, m => R.bind ((evE C o ρ m).bind fun x m => match kdOf m x with
      | .lst => (evEs C es ρ m).bind fun ws m => methop x name ws m
      | .no => .no) fun w m => truthy m w
  | .comp g, ρ, m => R.bind ((evG C g ρ m []).bind fun p m => new (.lst p.1) m) fun w m => truthy m w
  | .lrng a, ρ, m => R.bind ((evE C a ρ m).bind fun x m => match x with
      | .int j => if 0 ≤ j ∧ j ≤ 1000000 then new (.lst ((List.range j.toNat).map fun i => W.int (i : Nat))) m else .no
      | _ => .no) fun w m => truthy m w
  | .rng _, _, _ => R.bind (.no) fun w m => truthy m w
  | .rng2 _ _, _, _ => R.bind (.no) fun w m => truthy m w
  | .enm _, _, _ => R.bind (.no) fun w m => truthy m w
  | .zip _, _, _ => R.bind (.no) fun w m => truthy m w
def evI (C : Cx) : E → Loc → Mem → R Src
  | .rng a, ρ, m => (evE C a ρ m).bind fun x m => match x with
    | .int j => if -(2 ^ 62) ≤ j ∧ j < 2 ^ 62 then .ok (.rng 0 j.toNat) m else .no
    | _ => .no
  | .rng2 a b, ρ, m => (evE C a ρ m).bind fun x m => (evE C b ρ m).bind fun y m => match x, y with
    | .int i, .int j => if -(2 ^ 62) ≤ i ∧ i < 2 ^ 62 ∧ -(2 ^ 62) ≤ j ∧ j < 2 ^ 62 then .ok (.rng i (j - i).toNat) m else .no
    | _, _ => .no
  | .enm a, ρ, m => (evE C a ρ m).bind fun x m => match srcOf m x with
    | some s => .ok (.enm s) m
    | none => .no
  | .zip es, ρ, m => (evEs C es ρ m).bind fun xs m => match srcsOf m xs with
    | some ss => .ok (.zip ss) m
    | none => .no
  | .var i, ρ, m => R.bind (match ρ[i]? with
      | some (some w) => .ok w m
      | _ => .no) fun x m => (match srcOf m x with | some s => .ok s m | none => .no)
  | .cst w, _, m => R.bind (.ok w m) fun x m => (match srcOf m x with | some s => .ok s m | none => .no)
  | .bin op a b, ρ, m => R.bind ((evE C a ρ m).bind fun x m => (evE C b ρ m).bind fun y m => binop op x y m) fun x m => (match srcOf m x with | some s => .ok s m | none => .no)
  | .neg a, ρ, m => R.bind ((evE C a ρ m).bind fun x m => match x with
      | .int i => .ok (.int (-i)) m
      | _ => .no) fun x m => (match srcOf m x with | some s => .ok s m | none => .no)
  | .not a, ρ, m => R.bind ((evE C a ρ m).bind fun x m => match x with
      | .bl b => .ok (.bl (!b)) m
      | _ => .no) fun x m => (match srcOf m x with | some s => .ok s m | none => .no)
  | .and a b, ρ, m => R.bind ((evE C a ρ m).bind fun x m => match x with
      | .bl c => if c then evE C b ρ m else .ok (.bl false) m
      | _ => .no) fun x m => (match srcOf m x with | some s => .ok s m | none => .no)
  | .or a b, ρ, m => R.bind ((evE C a ρ m).bind fun x m => match x with
      | .bl c => if c then .ok (.bl true) m else evE C b ρ m
      | _ => .no) fun x m => (match srcOf m x with | some s => .ok s m | none => .no)
  | .cmp op a b, ρ, m => R.bind ((evE C a ρ m).bind fun x m => (evE C b ρ m).bind fun y m => (cmpop op x y m).bind fun c m => .ok (.bl c) m) fun x m => (match srcOf m x with | some s => .ok s m | none => .no)
  | .chain o1 o2 a b c, ρ, m => R.bind ((evE C a ρ m).bind fun x m => (evE C b ρ m).bind fun y m => (cmpop o1 x y m).bind fun k m =>
        if k then (evE C c ρ m).bind fun z m => (cmpop o2 y z m).bind fun k m => .ok (.bl k) m else .ok (.bl false) m) fun x m => (match srcOf m x with | some s => .ok s m | none => .no)
  | .ife t a b, ρ, m => R.bind ((evT C t ρ m).bind fun c m => if c then evE C a ρ m else evE C b ρ m) fun x m => (match srcOf m x with | some s => .ok s m | none => .no)
  | .tup es, ρ, m => R.bind ((evEs C es ρ m).bind fun ws m => if ws.length ≤ lim then .ok (.tup ws) m else .no) fun x m => (match srcOf m x with | some s => .ok s m | none => .no)
  | .lst es, ρ, m => R.bind ((evEs C es ρ m).bind fun ws m => if ws.length ≤ lim then new (.lst ws) m else .no) fun x m => (match srcOf m x with | some s => .ok s m | none => .no)
  | .idx a b, ρ, m => R.bind ((evE C a ρ m).bind fun x m => (evE C b ρ m).bind fun y m => idxop x y m) fun x m => (match srcOf m x with | some s => .ok s m | none => .no)
  | .slc a lo hi, ρ, m => R.bind ((evE C a ρ m).bind fun x m => (evO C lo ρ m).bind fun l m => (evO C hi ρ m).bind fun u m => slcop x l u m) fun x m => (match srcOf m x with | some s => .ok s m | none => .no)
  | .call f es, ρ, m => R.bind ((evEs C es ρ m).bind fun ws m => C.call f ws m) fun x m => (match srcOf m x with | some s => .ok s m | none => .no)
  | .blt b es, ρ, m => R.bind ((evEs C es ρ m).bind fun ws m => bltop b ws m) fun x m => (match srcOf m x with | some s => .ok s m | none => .no)
  | .isI a t, ρ, m => R.bind ((evE C a ρ m).bind fun x m => match isTy m t x with
      | some b => .ok (.bl b) m
      | none => .no) fun x m => (match srcOf m x with | some s => .ok s m | none => .no)
  | .meth o name es, ρ, m => R.bind ((evE C o ρ m).bind fun x m => match kdOf m x with
      | .lst => (evEs C es ρ m).bind fun ws m => methop x name ws m
      | .no => .no) fun x m => (match srcOf m x with | some s => .ok s m | none => .no)
  | .comp g, ρ, m => R.bind ((evG C g ρ m []).bind fun p m => new (.lst p.1) m) fun x m => (match srcOf m x with | some s => .ok s m | none => .no)
  | .lrng a, ρ, m => R.bind ((evE C a ρ m).bind fun x m => match x with
      | .int j => if 0 ≤ j ∧ j ≤ 1000000 then new (.lst ((List.range j.toNat).map fun i => W.int (i : Nat))) m else .no
      | _ => .no) fun x m => (match srcOf m x with | some s => .ok s m | none => .no)
def evG (C : Cx) : G → Loc → Mem → List W → R (List W × Loc)
  | .elt e, ρ, m, acc => (evE C e ρ m).bind fun w m => if acc.length < lim then .ok (acc ++ [w], ρ) m else .no
  | .gen t js it ifs rest, ρ, m, acc => (evI C it ρ m).bind fun s m => compN s.get t (fun ρ m => evIfs C ifs ρ m) (fun ρ m acc => evG C rest ρ m acc) (s.len m) 0 (clr js ρ) m acc
def evIfs (C : Cx) : Es → Loc → Mem → R Bool
  | .nil, _, m => .ok true m
  | .cons e es, ρ, m => (evT C e ρ m).bind fun b m => if b then evIfs C es ρ m else .ok false m
end
mutual
def evA (C : Cx) : A → W → Loc → Mem → R Loc
  | .pt t, w, ρ, m => match bindT t w ρ with
    | some ρ => .ok ρ m
    | none => .no
  | .sub o i, w, ρ, m => (evE C o ρ m).bind fun x m => (evE C i ρ m).bind fun y m => (setop x y w m).bind fun _ m => .ok ρ m
  | .tup l, w, ρ, m => match w with
    | .tup xs => evAs C l xs ρ m
    | _ => .no
def evAs (C : Cx) : As → List W → Loc → Mem → R Loc
  | .nil, xs, ρ, m => match xs with
    | [] => .ok ρ m
    | _ :: _ => .no
  | .cons a l, xs, ρ, m => match xs with
    | [] => .no
    | x :: xs => (evA C a x ρ m).bind fun ρ m => evAs C l xs ρ m
end
mutual
def evS (C : Cx) : S → Loc → Mem → R F
  | .asg t e, ρ, m => (evE C e ρ m).bind fun w m => (evA C t w ρ m).bind fun ρ m => .ok (.nx ρ) m
  | .aug i op e, ρ, m => match ρ[i]? with
    | some (some x) => (evE C e ρ m).bind fun y m => match op, x, y with
      | .Add, .int a, .int b => .ok (.nx (ρ.set i (some (.int (a + b))))) m
      | .Sub, .int a, .int b => .ok (.nx (ρ.set i (some (.int (a - b))))) m
      | _, _, _ => .no
    | _ => .no
  | .expr e, ρ, m => (evE C e ρ m).bind fun _ m => .ok (.nx ρ) m
  | .ret e, ρ, m => (evE C e ρ m).bind fun w m => .ok (.rt w) m
  | .retN, _, m => .ok (.rt .non) m
  | .ife t a b, ρ, m => (evT C t ρ m).bind fun c m => if c then evSs C a ρ m else evSs C b ρ m
  | .for_ t it b, ρ, m => (evI C it ρ m).bind fun s m => forN s.get t (fun ρ m => evSs C b ρ m) (s.len m) 0 ρ m
  | .while_ t b, ρ, m => whileN (fun ρ m => evT C t ρ m) (fun ρ m => evSs C b ρ m) C.fuel ρ m
  | .pass, ρ, m => .ok (.nx ρ) m
  | .brk, ρ, m => .ok (.bk ρ) m
  | .cont, ρ, m => .ok (.ct ρ) m
  | .never, _, _ => .no
def evSs (C : Cx) : Ss → Loc → Mem → R F
  | .nil, ρ, m => .ok (.nx ρ) m
  | .cons s r, ρ, m => (evS C s ρ m).bind fun f m => match f with
    | .nx ρ => evSs C r ρ m
    | f => .ok f m
end
structure Fn where
  np : Nat
  nl : Nat
  body : Ss
def startL (n : Nat) (ws : List W) : Loc := ws.map some ++ List.replicate (n - ws.length) none
def outF : F → Mem → R W
  | .nx _, m => .ok .non m
  | .rt w, m => .ok w m
  | _, _ => .no
end D
end
section
set_option Elab.async false
set_option linter.all false
set_option maxRecDepth 100000
set_option autoImplicit false
namespace D
open PySem PySem.Spec PyProof.Rows L2
def SqF (K : PySem.W.Frag) (H : Hp) (a : Addr) (xs : List V) : Prop := (∃ o, H a = some (.frz o (.lst xs))) ∨
  ∃ (o : Obj) (its : Array Value) (n : Nat), K.lookup a = some o ∧ o.cls = .type "list" ∧ o.dict = none ∧ o.data = .seq its n ∧ its.size ≤ sizeLine ∧ Vals xs its.toList
theorem SqF.l {K : PySem.W.Frag} {H : Hp} {a : Addr} {xs : List V} (h : SqF K H a xs) : SqL K H a xs := h.elim (fun ⟨o, e⟩ => .inl (.inr ⟨o, e⟩)) .inr
section
variable (K : PySem.W.Frag) (cl : Nat → Addr)
mutual
inductive RW (β : List Addr) (H : Hp) : W → V → Prop
  | non : RW β H .non .non
  | bl (b) : RW β H (.bl b) (.bl b)
  | int (i) : RW β H (.int i) (.int i)
  | str (x) : RW β H (.str x) (.str x)
  | tup {a vs xs} : SqT K H a vs → RWs β H xs vs → RW β H (.tup xs) (.ref a)
  | fz {a vs xs} : SqF K H a vs → RWs β H xs vs → RW β H (.fz xs) (.ref a)
  | ref {n a} : β[n]? = some a → RW β H (.ref n) (.ref a)
inductive RWs (β : List Addr) (H : Hp) : List W → List V → Prop
  | nil : RWs β H [] []
  | cons {w v ws vs} : RW β H w v → RWs β H ws vs → RWs β H (w :: ws) (v :: vs)
end
inductive RFs (β : List Addr) (H : Hp) : List (Str × W) → List (Str × V) → Prop
  | nil : RFs β H [] []
  | cons {f w v ws vs} : RW K β H w v → RFs β H ws vs → RFs β H ((f, w) :: ws) ((f, v) :: vs)
def RO (β : List Addr) (H : Hp) (a : Addr) : O → Prop
  | .lst ws => ∃ vs, H a = some (.lst vs) ∧ RWs K β H ws vs
  | .ins c fs => ∃ dx fs', H a = some (.ins (cl c) dx fs') ∧ RFs K β H fs fs'
structure Rel (β : List Addr) (m : Mem) (H : Hp) : Prop where
  len : β.length = m.length
  nd : β.Nodup
  obj : ∀ {n : Nat} {o : O} {a : Addr}, m[n]? = some o → β[n]? = some a → RO K cl β H a o
structure ExtD (Δ : Option Addr) (β : List Addr) (H : Hp) (β' : List Addr) (H' : Hp) : Prop where
  pre : ∃ γ, β' = β ++ γ ∧ ∀ a ∈ γ, H a = none
  keep : ∀ {a : Addr} {o : HO}, H a = some o → a ∉ β → some a ≠ Δ → H' a = some o
abbrev Ext := ExtD none
structure RL (β : List Addr) (H : Hp) (ρ : Loc) (σ : L2.St) : Prop where
  len : ρ.length = σ.length
  at_ : ∀ {i : Nat} {w : W}, ρ[i]? = some (some w) → ∃ v, σ[i]? = some (some v) ∧ RW K β H w v
end
section
variable {K : PySem.W.Frag} {cl : Nat → Addr} {β β' β'' : List Addr} {H H' H'' : Hp} {m m' : Mem} {a : Addr}
theorem Rel.mem (r : Rel K cl β m H) (h : a ∈ β) : ∃ (n : Nat) (o : O), β[n]? = some a ∧ m[n]? = some o ∧ RO K cl β H a o := by
  obtain ⟨n, hn⟩ := List.getElem?_of_mem h
  have hl : n < m.length := by
    have := (List.getElem?_eq_some_iff.mp hn).1
    rw [r.len] at this
    exact this
  exact ⟨n, m[n], hn, by simp [hl], r.obj (by simp [hl]) hn⟩
theorem RO.ex {o : O} (h : RO K cl β H a o) : ∃ u, H a = some u ∧ (∀ xs, u ≠ .tup xs) ∧ ∀ ob x, u ≠ .frz ob x := by
  cases o with
  | lst ws => obtain ⟨vs, e, _⟩ := h; exact ⟨_, e, (by intro _ z; cases z), (by intro _ _ z; cases z)⟩
  | ins c fs => obtain ⟨dx, fs', e, _⟩ := h; exact ⟨_, e, (by intro _ z; cases z), (by intro _ _ z; cases z)⟩
theorem Rel.ex (r : Rel K cl β m H) (h : a ∈ β) : ∃ u, H a = some u ∧ (∀ xs, u ≠ .tup xs) ∧ ∀ ob x, u ≠ .frz ob x := by
  obtain ⟨n, o, _, _, x⟩ := r.mem h
  exact x.ex
theorem Ext.refl {Δ : Option Addr} : ExtD Δ β H β H := ⟨⟨[], by simp, by simp⟩, fun h _ _ => h⟩
theorem ExtD.trans {Δ : Option Addr} (x : ExtD Δ β H β' H') (r' : Rel K cl β' m' H') (y : ExtD Δ β' H' β'' H'') (hD : ∀ d, Δ = some d → H' d ≠ none := by intro d z; cases z) : ExtD Δ β H β'' H'' := by
  obtain ⟨γ, rfl, hγ⟩ := x.pre
  obtain ⟨δ, rfl, hδ⟩ := y.pre
  refine ⟨⟨γ ++ δ, by simp, fun a ha => ?_⟩, fun {a o} h hn hd => ?_⟩
  · rcases List.mem_append.mp ha with z | z
    · exact hγ a z
    · by_cases hb : a ∈ β
      · obtain ⟨u, e, _⟩ := r'.ex (List.mem_append_left _ hb)
        rw [hδ a z] at e; cases e
      · cases e : H a with
        | none => rfl
        | some o =>
          by_cases hd : some a = Δ
          · exact absurd (hδ a z) (hD a hd.symm)
          · have := x.keep e hb hd
            rw [hδ a z] at this; cases this
  · refine y.keep (x.keep h hn hd) (fun z => ?_) hd
    rcases List.mem_append.mp z with z | z
    · exact hn z
    · rw [hγ a z] at h; cases h
theorem ExtD.toD {d : Addr} (x : Ext β H β' H') : ExtD (some d) β H β' H' := ⟨x.pre, fun h hn _ => x.keep h hn (by simp)⟩
theorem ExtD.sqT {Δ : Option Addr} (x : ExtD Δ β H β' H') (r : Rel K cl β m H) (hD : ∀ d, Δ = some d → ∃ vs, H d = some (.lst vs)) {vs : List V} (h : SqT K H a vs) : SqT K H' a vs := by
  rcases h with h | h
  · refine .inl ?_
    have na : a ∉ β := fun z => by
      obtain ⟨u, e, n1, n2⟩ := r.ex z
      rcases h with h | ⟨o, h⟩
      · rw [h] at e; cases e; exact n1 _ rfl
      · rw [h] at e; cases e; exact n2 _ _ rfl
    have nd : some a ≠ Δ := fun z => by
      obtain ⟨vs, e⟩ := hD a z.symm
      rcases h with h | ⟨o, h⟩
      · rw [h] at e; cases e
      · rw [h] at e; cases e
    rcases h with h | ⟨o, h⟩
    · exact .inl (x.keep h na nd)
    · exact .inr ⟨o, x.keep h na nd⟩
  · exact .inr h
theorem ExtD.sqF {Δ : Option Addr} (x : ExtD Δ β H β' H') (r : Rel K cl β m H) (hD : ∀ d, Δ = some d → ∃ vs, H d = some (.lst vs)) {vs : List V} (h : SqF K H a vs) : SqF K H' a vs := by
  rcases h with ⟨o, h⟩ | h
  · refine .inl ⟨o, x.keep h (fun z => ?_) fun z => ?_⟩
    · obtain ⟨u, e, n1, n2⟩ := r.ex z
      rw [h] at e; cases e; exact n2 _ _ rfl
    · obtain ⟨vs, e⟩ := hD a z.symm
      rw [h] at e; cases e
  · exact .inr h
theorem ExtD.get {Δ : Option Addr} {n : Nat} (x : ExtD Δ β H β' H') (h : β[n]? = some a) : β'[n]? = some a := by
  obtain ⟨γ, rfl, _⟩ := x.pre
  rw [List.getElem?_append_left (List.getElem?_eq_some_iff.mp h).1]
  exact h
mutual
theorem RW.monoD {Δ : Option Addr} (r : Rel K cl β m H) (hD : ∀ d, Δ = some d → ∃ vs, H d = some (.lst vs)) (x : ExtD Δ β H β' H') : ∀ {w : W} {v : V}, RW K β H w v → RW K β' H' w v
  | _, _, .non => .non
  | _, _, .bl b => .bl b
  | _, _, .int i => .int i
  | _, _, .str s => .str s
  | _, _, .tup h t => .tup (x.sqT r hD h) (RWs.monoD r hD x t)
  | _, _, .fz h t => .fz (x.sqF r hD h) (RWs.monoD r hD x t)
  | _, _, .ref h => .ref (x.get h)
theorem RWs.monoD {Δ : Option Addr} (r : Rel K cl β m H) (hD : ∀ d, Δ = some d → ∃ vs, H d = some (.lst vs)) (x : ExtD Δ β H β' H') : ∀ {w : List W} {v : List V}, RWs K β H w v → RWs K β' H' w v
  | _, _, .nil => .nil
  | _, _, .cons h t => .cons (RW.monoD r hD x h) (RWs.monoD r hD x t)
end
theorem noD {P : Addr → Prop} : ∀ d, (none : Option Addr) = some d → P d := fun d z => by cases z
theorem RW.mono (r : Rel K cl β m H) (x : Ext β H β' H') {w : W} {v : V} (h : RW K β H w v) : RW K β' H' w v := h.monoD r noD x
theorem RWs.mono (r : Rel K cl β m H) (x : Ext β H β' H') {w : List W} {v : List V} (h : RWs K β H w v) : RWs K β' H' w v := h.monoD r noD x
theorem RFs.monoD {Δ : Option Addr} (r : Rel K cl β m H) (hD : ∀ d, Δ = some d → ∃ vs, H d = some (.lst vs)) (x : ExtD Δ β H β' H') : ∀ {w : List (Str × W)} {v : List (Str × V)}, RFs K β H w v → RFs K β' H' w v
  | _, _, .nil => .nil
  | _, _, .cons h t => .cons (h.monoD r hD x) (RFs.monoD r hD x t)
theorem RL.monoD {Δ : Option Addr} (r : Rel K cl β m H) (hD : ∀ d, Δ = some d → ∃ vs, H d = some (.lst vs)) (x : ExtD Δ β H β' H') {ρ : Loc} {σ : L2.St} (l : RL K β H ρ σ) : RL K β' H' ρ σ :=
  ⟨l.len, fun h => let ⟨v, e, q⟩ := l.at_ h; ⟨v, e, q.monoD r hD x⟩⟩
theorem RL.mono (r : Rel K cl β m H) (x : Ext β H β' H') {ρ : Loc} {σ : L2.St} (l : RL K β H ρ σ) : RL K β' H' ρ σ := l.monoD r noD x
theorem RO.monoD {Δ : Option Addr} (r : Rel K cl β m H) (hD : ∀ d, Δ = some d → ∃ vs, H d = some (.lst vs)) (x : ExtD Δ β H β' H') (hk : H' a = H a) {o : O} (h : RO K cl β H a o) : RO K cl β' H' a o := by
  cases o with
  | lst ws => obtain ⟨vs, e, t⟩ := h; exact ⟨vs, hk.trans e, t.monoD r hD x⟩
  | ins c fs => obtain ⟨dx, fs', e, t⟩ := h; exact ⟨dx, fs', hk.trans e, t.monoD r hD x⟩
theorem RO.mono (r : Rel K cl β m H) (x : Ext β H β' H') (hk : H' a = H a) {o : O} (h : RO K cl β H a o) : RO K cl β' H' a o := h.monoD r noD x hk
theorem RWs.length : ∀ {ws : List W} {vs : List V}, RWs K β H ws vs → ws.length = vs.length
  | _, _, .nil => rfl
  | _, _, .cons _ t => by rw [List.length_cons, List.length_cons, RWs.length t]
theorem RWs.get : ∀ {ws : List W} {vs : List V} {i : Nat} {w : W}, RWs K β H ws vs → ws[i]? = some w → ∃ v, vs[i]? = some v ∧ RW K β H w v
  | _, _, _, _, .nil, e => by simp at e
  | _, _, 0, _, .cons h t, e => by simp at e; subst e; exact ⟨_, rfl, h⟩
  | _, _, i + 1, _, .cons h t, e => by simpa using RWs.get (i := i) t (by simpa using e)
theorem RWs.get' : ∀ {ws : List W} {vs : List V} {i : Nat} {v : V}, RWs K β H ws vs → vs[i]? = some v → ∃ w, ws[i]? = some w ∧ RW K β H w v
  | _, _, _, _, .nil, e => by simp at e
  | _, _, 0, _, .cons h t, e => by simp at e; subst e; exact ⟨_, rfl, h⟩
  | _, _, i + 1, _, .cons h t, e => by simpa using RWs.get' (i := i) t (by simpa using e)
theorem RWs.append : ∀ {v w : List W} {d e : List V}, RWs K β H v d → RWs K β H w e → RWs K β H (v ++ w) (d ++ e)
  | _, _, _, _, .nil, s => s
  | _, _, _, _, .cons h t, s => .cons h (RWs.append t s)
theorem RWs.take : ∀ {ws : List W} {vs : List V} (n : Nat), RWs K β H ws vs → RWs K β H (ws.take n) (vs.take n)
  | _, _, 0, _ => .nil
  | _, _, _ + 1, .nil => .nil
  | _, _, n + 1, .cons h t => .cons h (RWs.take n t)
theorem RWs.drop : ∀ {ws : List W} {vs : List V} (n : Nat), RWs K β H ws vs → RWs K β H (ws.drop n) (vs.drop n)
  | _, _, 0, r => r
  | _, _, _ + 1, .nil => .nil
  | _, _, n + 1, .cons h t => RWs.drop n t
theorem RWs.set {w : W} {v : V} (r : RW K β H w v) : ∀ {ws : List W} {vs : List V} (i : Nat), RWs K β H ws vs → RWs K β H (ws.set i w) (vs.set i v)
  | _, _, _, .nil => .nil
  | _, _, 0, .cons _ t => .cons r t
  | _, _, i + 1, .cons q t => .cons q (RWs.set r i t)
theorem RWs.eraseIdx : ∀ {ws : List W} {vs : List V} (i : Nat), RWs K β H ws vs → RWs K β H (ws.eraseIdx i) (vs.eraseIdx i)
  | _, _, _, .nil => .nil
  | _, _, 0, .cons _ t => t
  | _, _, i + 1, .cons q t => .cons q (RWs.eraseIdx i t)
theorem RWs.reverse : ∀ {ws : List W} {vs : List V}, RWs K β H ws vs → RWs K β H ws.reverse vs.reverse
  | _, _, .nil => .nil
  | _, _, .cons q t => by rw [List.reverse_cons, List.reverse_cons]; exact (RWs.reverse t).append (.cons q .nil)
theorem RWs.dropLast {ws : List W} {vs : List V} (h : RWs K β H ws vs) : RWs K β H ws.dropLast vs.dropLast := by
  rw [List.dropLast_eq_take, List.dropLast_eq_take, h.length]; exact h.take _
theorem RWs.bools {bs : List Bool} : ∀ {ws : List W} {vs : List V}, RWs K β H ws vs → D.bools ws = Option.some bs → vs = bs.map V.bl := by
  induction bs with
  | nil =>
    intro ws vs h e
    cases h with
    | nil => rfl
    | cons q t => cases q <;> simp [D.bools] at e
  | cons b bs ih =>
    intro ws vs h e
    cases h with
    | nil => simp [D.bools] at e
    | cons q t =>
      cases q with
      | bl c =>
        simp only [D.bools, Option.map_eq_some_iff] at e
        obtain ⟨r, e1, e2⟩ := e
        cases e2
        rw [ih t e1]; rfl
      | _ => simp [D.bools] at e
mutual
theorem RW.sub (h : ∀ {n : Nat} {a : Addr}, β[n]? = Option.some a → β'[n]? = Option.some a) : ∀ {w : W} {v : V}, RW K β H w v → RW K β' H w v
  | _, _, .non => .non
  | _, _, .bl b => .bl b
  | _, _, .int i => .int i
  | _, _, .str s => .str s
  | _, _, .tup q t => .tup q (RWs.sub h t)
  | _, _, .fz q t => .fz q (RWs.sub h t)
  | _, _, .ref q => .ref (h q)
theorem RWs.sub (h : ∀ {n : Nat} {a : Addr}, β[n]? = Option.some a → β'[n]? = Option.some a) : ∀ {w : List W} {v : List V}, RWs K β H w v → RWs K β' H w v
  | _, _, .nil => .nil
  | _, _, .cons q t => .cons (RW.sub h q) (RWs.sub h t)
end
theorem RFs.sub (h : ∀ {n : Nat} {a : Addr}, β[n]? = Option.some a → β'[n]? = Option.some a) : ∀ {w : List (Str × W)} {v : List (Str × V)}, RFs K β H w v → RFs K β' H w v
  | _, _, .nil => .nil
  | _, _, .cons q t => .cons (q.sub h) (RFs.sub h t)
theorem RO.sub (h : ∀ {n : Nat} {a : Addr}, β[n]? = Option.some a → β'[n]? = Option.some a) {o : O} (q : RO K cl β H a o) : RO K cl β' H a o := by
  cases o with
  | lst ws => obtain ⟨vs, e, t⟩ := q; exact ⟨vs, e, t.sub h⟩
  | ins c fs => obtain ⟨dx, fs', e, t⟩ := q; exact ⟨dx, fs', e, t.sub h⟩
theorem Rel.newT (r : Rel K cl β m H) {p : Addr} (hp : H p = none) (vs : List V) : Ext β H β (upd H p (.tup vs)) ∧ Rel K cl β m (upd H p (.tup vs)) := by
  have x : Ext β H β (upd H p (.tup vs)) := ⟨⟨[], by simp, by simp⟩, fun h _ _ => by rw [upd_ne (ne_of_none h hp)]; exact h⟩
  refine ⟨x, r.len, r.nd, fun h1 h2 => ?_⟩
  have q := r.obj h1 h2
  obtain ⟨u, e, _⟩ := q.ex
  exact q.mono r x (upd_ne (ne_of_none e hp))
theorem Rel.nin (r : Rel K cl β m H) {p : Addr} (hp : H p = none) : p ∉ β := fun z => by
  obtain ⟨u, e, _⟩ := r.ex z
  rw [hp] at e; cases e
theorem Rel.newO (r : Rel K cl β m H) {p : Addr} {ho : HO} {o : O} (hp : H p = none) (q : ∀ x : Ext β H (β ++ [p]) (upd H p ho), RO K cl (β ++ [p]) (upd H p ho) p o) : Ext β H (β ++ [p]) (upd H p ho) ∧ Rel K cl (β ++ [p]) (m ++ [o]) (upd H p ho) := by
  have x : Ext β H (β ++ [p]) (upd H p ho) := ⟨⟨[p], rfl, fun a ha => by simp at ha; rw [ha]; exact hp⟩, fun h _ _ => by rw [upd_ne (ne_of_none h hp)]; exact h⟩
  refine ⟨x, by simp [r.len], ?_, fun {n o' a} h1 h2 => ?_⟩
  · rw [List.nodup_append]
    refine ⟨r.nd, by simp, fun a ha b hb => ?_⟩
    simp at hb
    subst hb
    rintro rfl
    exact r.nin hp ha
  · by_cases hn : n < m.length
    · rw [List.getElem?_append_left hn] at h1
      rw [List.getElem?_append_left (by rw [r.len]; exact hn)] at h2
      have q := r.obj h1 h2
      obtain ⟨u, e, _⟩ := q.ex
      exact q.mono r x (upd_ne (ne_of_none e hp))
    · have e1 := (List.getElem?_eq_some_iff.mp h1).1
      simp at e1
      have e : n = m.length := by omega
      subst e
      rw [List.getElem?_append_right (Nat.le_refl _)] at h1
      rw [← r.len, List.getElem?_append_right (Nat.le_refl _)] at h2
      simp at h1 h2
      subst h1 h2
      exact q x
theorem Rel.newL (r : Rel K cl β m H) {p : Addr} (hp : H p = none) {ws : List W} {vs : List V} (q : RWs K β H ws vs) : Ext β H (β ++ [p]) (upd H p (.lst vs)) ∧ Rel K cl (β ++ [p]) (m ++ [.lst ws]) (upd H p (.lst vs)) :=
  r.newO hp fun x => ⟨vs, upd_same, q.mono r x⟩
theorem Rel.priv (r : Rel K cl β m H) {d : Addr} {vs vs' : List V} (hd : H d = Option.some (.lst vs)) (hn : d ∉ β) : ExtD (Option.some d) β H β (upd H d (.lst vs')) ∧ Rel K cl β m (upd H d (.lst vs')) := by
  have x : ExtD (Option.some d) β H β (upd H d (.lst vs')) := ⟨⟨[], by simp, by simp⟩, fun {a o} h _ na => by rw [upd_ne (fun z => na (by rw [z]))]; exact h⟩
  refine ⟨x, r.len, r.nd, fun h1 h2 => ?_⟩
  have q := r.obj h1 h2
  refine q.monoD r (fun d' z => ?_) x (upd_ne fun z => ?_)
  · cases z; exact ⟨_, hd⟩
  · exact hn (by rw [← z]; exact List.mem_of_getElem? h2)
theorem Rel.out (r : Rel K cl β m H) {d : Addr} {vs : List V} {ws : List W} (hd : H d = Option.some (.lst vs)) (hn : d ∉ β) (t : RWs K β H ws vs) : Rel K cl (β ++ [d]) (m ++ [.lst ws]) H := by
  have x : ∀ {w : List W} {v : List V}, RWs K β H w v → RWs K (β ++ [d]) H w v := by
    have xx : ∀ {n : Nat} {a : Addr}, β[n]? = Option.some a → (β ++ [d])[n]? = Option.some a := fun {n a} h => by
      rw [List.getElem?_append_left (List.getElem?_eq_some_iff.mp h).1]; exact h
    intro w v h
    exact RWs.sub xx h
  refine ⟨by simp [r.len], ?_, fun {n o a} h1 h2 => ?_⟩
  · rw [List.nodup_append]
    refine ⟨r.nd, by simp, fun a ha b hb => ?_⟩
    simp at hb
    subst hb
    rintro rfl
    exact hn ha
  · by_cases hl : n < m.length
    · rw [List.getElem?_append_left hl] at h1
      rw [List.getElem?_append_left (by rw [r.len]; exact hl)] at h2
      exact (r.obj h1 h2).sub fun {n a} h => by rw [List.getElem?_append_left (List.getElem?_eq_some_iff.mp h).1]; exact h
    · have e1 := (List.getElem?_eq_some_iff.mp h1).1
      simp at e1
      have e : n = m.length := by omega
      subst e
      rw [List.getElem?_append_right (Nat.le_refl _)] at h1
      rw [← r.len, List.getElem?_append_right (Nat.le_refl _)] at h2
      simp at h1 h2
      subst h1 h2
      exact ⟨vs, hd, x t⟩
theorem Rel.last (r : Rel K cl β m H) (p : Addr) : (β ++ [p])[m.length]? = Option.some p := by
  rw [← r.len, List.getElem?_append_right (Nat.le_refl _)]; simp
theorem Rel.setL (r : Rel K cl β m H) {n : Nat} {o : O} {ws' : List W} {vs' : List V} (hm : m[n]? = Option.some o) (hb : β[n]? = Option.some a) (q : RWs K β H ws' vs') : Ext β H β (upd H a (.lst vs')) ∧ Rel K cl β (m.set n (.lst ws')) (upd H a (.lst vs')) := by
  have ha : a ∈ β := List.mem_of_getElem? hb
  have x : Ext β H β (upd H a (.lst vs')) := ⟨⟨[], by simp, by simp⟩, fun {b u} h hn _ => by rw [upd_ne (show b ≠ a from fun z => hn (by rw [z]; exact ha))]; exact h⟩
  refine ⟨x, by simp [r.len], r.nd, fun {k o' b} h1 h2 => ?_⟩
  by_cases hk : n = k
  · subst hk
    rw [hb] at h2; cases h2
    rw [List.getElem?_set_self (List.getElem?_eq_some_iff.mp hm).1] at h1
    cases h1
    exact ⟨vs', upd_same, q.mono r x⟩
  · rw [List.getElem?_set_ne hk] at h1
    have q' := r.obj h1 h2
    refine q'.mono r x (upd_ne ?_)
    rintro rfl
    obtain ⟨h3, e3⟩ := List.getElem?_eq_some_iff.mp h2
    obtain ⟨h4, e4⟩ := List.getElem?_eq_some_iff.mp hb
    exact hk ((List.getElem_inj r.nd).mp (e4.trans e3.symm))
theorem Rel.getL (r : Rel K cl β m H) {w : W} {v : V} {ws : List W} (q : RW K β H w v) (e : D.getL m w = Option.some ws) : ∃ a vs, v = .ref a ∧ SqL K H a vs ∧ RWs K β H ws vs := by
  cases q with
  | ref h =>
    unfold D.getL at e
    dsimp only at e
    split at e
    · rename_i xs e1
      cases e
      obtain ⟨vs, z, t⟩ := r.obj e1 h
      exact ⟨_, vs, rfl, .inl (.inl z), t⟩
    · cases e
  | fz h t => cases e; exact ⟨_, _, rfl, h.l, t⟩
  | _ => simp [D.getL] at e
theorem Rel.getS (r : Rel K cl β m H) {w : W} {v : V} {ws : List W} (q : RW K β H w v) (e : D.getS m w = Option.some ws) : ∃ a vs, v = .ref a ∧ (SqL K H a vs ∨ SqT K H a vs) ∧ RWs K β H ws vs := by
  cases w with
  | tup xs =>
    cases q with
    | tup h t =>
      cases e
      exact ⟨_, _, rfl, .inr h, t⟩
  | _ =>
    obtain ⟨a, vs, e1, e2, e3⟩ := r.getL q e
    exact ⟨a, vs, e1, .inl e2, e3⟩
theorem Rel.lst (r : Rel K cl β m H) {n : Nat} {v : V} {ws : List W} (q : RW K β H (.ref n) v) (e : m[n]? = Option.some (.lst ws)) : ∃ a vs, v = .ref a ∧ β[n]? = Option.some a ∧ H a = Option.some (.lst vs) ∧ RWs K β H ws vs := by
  cases q with
  | ref h =>
    obtain ⟨vs, z, t⟩ := r.obj e h
    exact ⟨_, vs, rfl, h, z, t⟩
theorem allD_dts {f : W → Option PyData} : ∀ {ws : List W} {vs : List V} {ds : List PyData}, (∀ w v d, w ∈ ws → RW K β H w v → f w = Option.some d → Dt K H v d) → RWs K β H ws vs → allD f ws = Option.some ds → Dts K H vs ds
  | [], _, _, _, .nil, e => by cases e; exact .nil
  | w :: ws, _, _, h, .cons q t, e => by
    unfold allD at e
    split at e
    · cases e
    · rename_i d e1
      split at e
      · cases e
      · rename_i ds e2
        cases e
        exact .cons (h w _ d List.mem_cons_self q e1) (allD_dts (fun w' v' d' hw => h w' v' d' (List.mem_cons_of_mem _ hw)) t e2)
theorem toD_dt (r : Rel K cl β m H) : ∀ (n : Nat) {w : W} {v : V} {d : PyData}, RW K β H w v → toD n m w = Option.some d → Dt K H v d
  | 0, _, _, _, _, e => by cases e
  | n + 1, w, v, d, q, e => by
    unfold toD at e
    cases q with
    | non => cases e; exact .non
    | bl b => cases e; exact .bl b
    | int i => cases e; exact .int i
    | str x =>
      dsimp only at e
      split at e
      · cases e; exact .str x
      · cases e
    | tup h t =>
      simp only [Option.map_eq_some_iff] at e
      obtain ⟨ds, e1, e2⟩ := e
      subst e2
      exact .tup h (allD_dts (fun w v d _ q e => toD_dt r n q e) t e1)
    | fz h t =>
      simp only [Option.map_eq_some_iff] at e
      obtain ⟨ds, e1, e2⟩ := e
      subst e2
      exact .lst h.l (allD_dts (fun w v d _ q e => toD_dt r n q e) t e1)
    | ref h =>
      dsimp only at e
      split at e
      · rename_i xs e1
        simp only [Option.map_eq_some_iff] at e
        obtain ⟨ds, e2, e3⟩ := e
        subst e3
        obtain ⟨a, vs, z1, z2, z3⟩ := r.getL (.ref h) e1
        cases z1
        exact .lst z2 (allD_dts (fun w v d _ q e => toD_dt r n q e) z3 e2)
      · cases e
theorem allD_all {f : W → Option PyData} {n : Nat} : ∀ {ws : List W} {ds : List PyData}, (∀ w d, f w = Option.some d → d.canLay0 = true ∧ d.depth ≤ n) → allD f ws = Option.some ds → PyData.canLayAll0 ds = true ∧ PyData.depthAll ds ≤ n
  | [], _, _, e => by cases e; exact ⟨rfl, Nat.zero_le _⟩
  | w :: ws, _, h, e => by
    unfold allD at e
    split at e
    · cases e
    · rename_i d e1
      split at e
      · cases e
      · rename_i ds e2
        cases e
        obtain ⟨a1, a2⟩ := h w d e1
        obtain ⟨b1, b2⟩ := allD_all h e2
        refine ⟨by simp [PyData.canLayAll0, a1, b1], ?_⟩
        simp only [PyData.depthAll]
        omega
theorem toD_lay : ∀ (n : Nat) {w : W} {d : PyData}, toD n m w = Option.some d → d.canLay0 = true ∧ d.depth ≤ n
  | 0, _, _, e => by cases e
  | n + 1, w, d, e => by
    unfold toD at e
    cases w with
    | non => cases e; exact ⟨rfl, by simp [PyData.depth]⟩
    | bl b => cases e; exact ⟨rfl, by simp [PyData.depth]⟩
    | int i => cases e; exact ⟨rfl, by simp [PyData.depth]⟩
    | str x =>
      dsimp only at e
      split at e
      · rename_i hx
        cases e
        exact ⟨hx, by simp [PyData.depth]⟩
      · cases e
    | tup xs =>
      simp only [Option.map_eq_some_iff] at e
      obtain ⟨ds, e1, e2⟩ := e
      subst e2
      obtain ⟨a1, a2⟩ := allD_all (fun w d e => toD_lay n e) e1
      exact ⟨a1, by simp only [PyData.depth]; omega⟩
    | fz xs =>
      simp only [Option.map_eq_some_iff] at e
      obtain ⟨ds, e1, e2⟩ := e
      subst e2
      obtain ⟨a1, a2⟩ := allD_all (fun w d e => toD_lay n e) e1
      exact ⟨a1, by simp only [PyData.depth]; omega⟩
    | ref k =>
      dsimp only at e
      split at e
      · simp only [Option.map_eq_some_iff] at e
        obtain ⟨ds, e2, e3⟩ := e
        subst e3
        obtain ⟨a1, a2⟩ := allD_all (fun w d e => toD_lay n e) e2
        exact ⟨a1, by simp only [PyData.depth]; omega⟩
      · cases e
theorem R.bind_ok {α γ : Type} {x : R α} {f : α → Mem → R γ} {c : γ} (h : x.bind f = .ok c m') : ∃ a m, x = .ok a m ∧ f a m = .ok c m' := by
  cases x with
  | no => cases h
  | ok a m => exact ⟨a, m, rfl, h⟩
end
end D
end
section
set_option Elab.async false
set_option linter.all false
set_option maxRecDepth 100000
set_option autoImplicit false
namespace D
open PySem PySem.Spec PyProof.Rows L2
theorem lim_line : lim ≤ sizeLine := by rw [sizeLine_eq]; decide
section
variable (X : L2.Cx) (cl : Nat → Addr)
def SE (ev : Loc → Mem → R W) : TE := fun σ H Q => ∃ β ρ m w m', Rel X.K cl β m H ∧ RL X.K β H ρ σ ∧ ev ρ m = .ok w m' ∧ ∀ β' H' v, Ext β H β' H' → Rel X.K cl β' m' H' → RW X.K β' H' w v → Q v H'
def ST (ev : Loc → Mem → R Bool) : TT := fun σ H Q => ∃ β ρ m b m', Rel X.K cl β m H ∧ RL X.K β H ρ σ ∧ ev ρ m = .ok b m' ∧ ∀ β' H', Ext β H β' H' → Rel X.K cl β' m' H' → Q b H'
def SA (ev : Loc → Mem → R (List W)) : TA := fun σ H Q => ∃ β ρ m ws m', Rel X.K cl β m H ∧ RL X.K β H ρ σ ∧ ev ρ m = .ok ws m' ∧ ∀ β' H' vs, Ext β H β' H' → Rel X.K cl β' m' H' → RWs X.K β' H' ws vs → Q vs H'
def SOo (ev : Loc → Mem → R (Option Int)) : TO := fun σ H Q => ∃ β ρ m o m', Rel X.K cl β m H ∧ RL X.K β H ρ σ ∧ ev ρ m = .ok o m' ∧ ∀ β' H', Ext β H β' H' → Rel X.K cl β' m' H' → Q o H'
def SO2 (f : W → W → Mem → R W) : R2 := fun x y H Q => ∃ β m wx wy w m', Rel X.K cl β m H ∧ RW X.K β H wx x ∧ RW X.K β H wy y ∧ f wx wy m = .ok w m' ∧ ∀ β' H' v, Ext β H β' H' → Rel X.K cl β' m' H' → RW X.K β' H' w v → Q v H'
def SOl (f : List W → Mem → R W) : List V → Hp → VK → Prop := fun xs H Q => ∃ β m ws w m', Rel X.K cl β m H ∧ RWs X.K β H ws xs ∧ f ws m = .ok w m' ∧ ∀ β' H' v, Ext β H β' H' → Rel X.K cl β' m' H' → RW X.K β' H' w v → Q v H'
end
theorem PE.imp {X : L2.Cx} {e : Expr} {t t' : TE} (h : PE X e t) (i : ∀ σ H Q, t' σ H Q → t σ H Q) : PE X e t' := fun pins s σ H Q I q => h pins s σ H Q I (i σ H Q q)
theorem PE.or {X : L2.Cx} {e : Expr} {t t' : TE} (h : PE X e t) (h' : PE X e t') : PE X e (fun σ H Q => t σ H Q ∨ t' σ H Q) := fun pins s σ H Q I q => q.elim (h pins s σ H Q I) (h' pins s σ H Q I)
theorem PT.imp {X : L2.Cx} {e : Expr} {t t' : TT} (h : PT X e t) (i : ∀ σ H Q, t' σ H Q → t σ H Q) : PT X e t' := fun pins s σ H Q I q => h pins s σ H Q I (i σ H Q q)
theorem PW.imp {X : L2.Cx} {e : Expr} {t t' : TT} (h : PW X e t) (i : ∀ σ H Q, t' σ H Q → t σ H Q) : PW X e t' := fun wh pins s σ H Q I q => h wh pins s σ H Q I (i σ H Q q)
theorem PA.imp {X : L2.Cx} {e : List Expr} {t t' : TA} (h : PA X e t) (i : ∀ σ H Q, t' σ H Q → t σ H Q) : PA X e t' := fun pos pins s σ H Q I q => h pos pins s σ H Q I (i σ H Q q)
theorem PO.imp {X : L2.Cx} {e : Option Expr} {t t' : TO} (h : PO X e t) (i : ∀ σ H Q, t' σ H Q → t σ H Q) : PO X e t' := fun pins s σ H Q I q => h pins s σ H Q I (i σ H Q q)
section
variable {X : L2.Cx} {cl : Nat → Addr}
theorem op_catT0 : OpR X (binaryOp .Add) (fun x y H Q => ∃ a b ys, x = .ref a ∧ y = .ref b ∧ SqT X.K H a [] ∧ SqT X.K H b ys ∧ Q (.ref b) H) := by
  intro pins s σ H x y v u Q I rx ry h
  obtain ⟨a, b, ys, rfl, rfl, h1, h2, q⟩ := h
  cases rx; cases ry
  obtain ⟨its, rv, p1, _⟩ := I.tuple h1
  obtain ⟨its2, rv2, p2, _⟩ := I.tuple h2
  cases rv
  obtain ⟨⟨cls, dd, data, sl⟩, ho, hc, n, hd⟩ := id p1
  obtain ⟨⟨cls2, dd2, data2, sl2⟩, ho2, hc2, n2, hd2⟩ := id p2
  simp only at hc hd hc2 hd2
  subst hc hd hc2 hd2
  exact concat_meets ⟨_, ho, rfl⟩ ⟨_, ho2, rfl⟩ noFill_tuple_add seq_tuple_add PySem.F.slot_tuple_add PySem.F.entry_tuple_add (PySem.F.args_tuple_add_2 _ _)
      (tuple_addW0 a b _ its2.toArray n n2 dd dd2 sl sl2 (by simp)) ⟨ho, ho2, ⟨.ref b, H, I, rfl, q⟩⟩
theorem so_bin (op : Operator) : OpR X (binaryOp op) (SO2 X cl (binop op)) := by
  intro pins s σ H x y v u Q I rx ry h
  obtain ⟨β, m, wx, wy, w, m', r, qx, qy, e, k⟩ := h
  unfold binop at e
  split at e
  · cases e; cases qx; cases qy
    exact op_add pins s σ H _ _ v u Q I rx ry ⟨_, _, rfl, rfl, k _ _ _ Ext.refl r (.int _)⟩
  · cases e; cases qx; cases qy
    exact op_sub pins s σ H _ _ v u Q I rx ry ⟨_, _, rfl, rfl, k _ _ _ Ext.refl r (.int _)⟩
  · split at e
    · rename_i hm
      cases e; cases qx; cases qy
      refine op_mul pins s σ H _ _ v u Q I rx ry ⟨_, _, rfl, rfl, ?_, k _ _ _ Ext.refl r (.int _)⟩
      simpa [mulOk, CMul] using hm
    · cases e
  · split at e
    · rename_i hm
      cases e; cases qx; cases qy
      exact op_fdiv pins s σ H _ _ v u Q I rx ry ⟨_, _, rfl, rfl, hm, k _ _ _ Ext.refl r (.int _)⟩
    · cases e
  · split at e
    · rename_i hm
      cases e; cases qx; cases qy
      exact op_mod pins s σ H _ _ v u Q I rx ry ⟨_, _, rfl, rfl, hm, k _ _ _ Ext.refl r (.int _)⟩
    · cases e
  · split at e
    · rename_i hm
      cases e; cases qx; cases qy
      exact op_pow pins s σ H _ _ v u Q I rx ry ⟨_, _, rfl, rfl, hm, k _ _ _ Ext.refl r (.int _)⟩
    · cases e
  · rename_i xs ys
    split at e
    · rename_i hm
      cases e
      cases qx with
      | tup h1 t1 =>
        cases qy with
        | tup h2 t2 =>
          rename_i a vs b us
          cases t1 with
          | nil => exact op_catT0 pins s σ H _ _ v u Q I rx ry ⟨_, _, _, rfl, rfl, h1, h2, k _ _ _ Ext.refl r (.tup h2 (by simpa using t2))⟩
          | cons t1 tt1 =>
            rename_i w1 v1 ws1 vs1
            have hl : (v1 :: vs1).length + us.length ≤ lim := by
              rw [← (RWs.cons t1 tt1).length, ← t2.length]; exact hm
            refine op_catT pins s σ H _ _ v u Q I rx ry ⟨_, _, _, _, rfl, rfl, h1, h2, by simp, Nat.le_trans hl lim_line, fun z => ?_, fun z p hp => ?_⟩
            · subst z
              cases t2
              exact k _ _ _ Ext.refl r (.tup h1 (by simpa using RWs.cons t1 tt1))
            · obtain ⟨x', r'⟩ := r.newT hp (v1 :: vs1 ++ us)
              refine k _ _ _ x' r' (.tup (.of upd_same) ?_)
              exact ((RWs.cons t1 tt1).append t2).mono r x'
    · cases e
  · rename_i a b
    split at e
    · rename_i xs ys e1 e2
      split at e
      · rename_i hm
        cases e
        obtain ⟨a', vs, rfl, b1, h1, t1⟩ := r.lst qx e1
        obtain ⟨b', us, rfl, b2, h2, t2⟩ := r.lst qy e2
        refine op_cat pins s σ H _ _ v u Q I rx ry ⟨_, _, _, _, rfl, rfl, h1, h2, ?_, fun p hp => ?_⟩
        · rw [← t1.length, ← t2.length]; exact Nat.le_trans hm lim_line
        · obtain ⟨x', r'⟩ := r.newL hp (t1.append t2)
          exact k _ _ _ x' r' (.ref (r.last p))
      · cases e
    · cases e
  · cases e
theorem so_eq (hu : X.A.units + 64 < cLine) : OpR X (compareOp .Eq) (SO2 X cl fun x y m => (eqW m x y).bind fun c m => .ok (.bl c) m) := by
  intro pins s σ H x y v u Q I rx ry h
  obtain ⟨β, m, wx, wy, w, m', r, qx, qy, e, k⟩ := h
  obtain ⟨c, m1, e1, e2⟩ := R.bind_ok e
  cases e2
  unfold eqW at e1
  split at e1
  · rename_i d1 d2 f1 f2
    cases e1
    exact op_eqD hu pins s σ H _ _ v u Q I rx ry ⟨_, _, toD_dt r _ qx f1, toD_dt r _ qy f2, (toD_lay _ f1).1, (toD_lay _ f2).1, (toD_lay _ f1).2, k _ _ _ Ext.refl r (.bl _)⟩
  · cases e1
theorem so_ne (hu : X.A.units + 64 < cLine) : OpR X (compareOp .NotEq) (SO2 X cl fun x y m => ((eqW m x y).bind fun b m => .ok (!b) m).bind fun c m => .ok (.bl c) m) := by
  intro pins s σ H x y v u Q I rx ry h
  obtain ⟨β, m, wx, wy, w, m', r, qx, qy, e, k⟩ := h
  obtain ⟨c, m1, e1, e2⟩ := R.bind_ok e
  cases e2
  obtain ⟨c, m1, e1, e2⟩ := R.bind_ok e1
  cases e2
  unfold eqW at e1
  split at e1
  · rename_i d1 d2 f1 f2
    cases e1
    exact op_neD hu pins s σ H _ _ v u Q I rx ry ⟨_, _, toD_dt r _ qx f1, toD_dt r _ qy f2, (toD_lay _ f1).1, (toD_lay _ f2).1, (toD_lay _ f1).2, k _ _ _ Ext.refl r (.bl _)⟩
  · cases e1
theorem so_mem (hu : X.A.units + 64 < cLine) (neg : Bool) {pins : List (Addr × Obj)} {s : Shared} {σ : L2.St} {H : Hp} {x y : V} {v u : Value} {Q : VK} {β : List Addr} {m m' : Mem} {wx wy : W} {ys : List W} {c : Bool} (I : Inv X pins σ H s) (rx : RelV x v) (ry : RelV y u)
    (r : Rel X.K cl β m H) (qx : RW X.K β H wx x) (qy : RW X.K β H wy y) (e1 : getS m wy = some ys) (e2 : memW m wx ys = .ok c m') (k : m' = m → Q (.bl (if neg then !c else c)) H) :
    wpAny (model X.prog X.w) X.A (compareOp (if neg then .NotIn else .In) v u) (EP X pins σ Q) X.xe s := by
  obtain ⟨a, vs, rfl, hs, t⟩ := r.getS qy e1
  cases ry
  unfold memW at e2
  split at e2
  · rename_i d es f1 f2
    cases e2
    have k := k rfl
    obtain ⟨l1, l2⟩ := toD_lay _ f1
    obtain ⟨l3, l4⟩ := allD_all (fun w d e => toD_lay 60 e) f2
    have ds : Dts X.K H vs es := allD_dts (fun w v d _ q e => toD_dt r _ q e) t f2
    obtain ⟨as, ra⟩ := I.reads (toD_dt r _ qx f1) rx
    have hu' : X.A.units + 1 + min (PyData.depthAll es) d.depth < cLine := by
      have : min (PyData.depthAll es) d.depth ≤ d.depth := Nat.min_le_right _ _
      omega
    rcases hs with hs | hs
    · obtain ⟨bs, rb⟩ := I.reads (Dt.lst hs ds) (u := Value.ref a) rfl
      cases neg with
      | false => exact SeqAt.in_list_reads rb ra l3 l1 hu' ⟨.bl _, H, I, rfl, k⟩
      | true => exact SeqAt.notIn_list_reads rb ra l3 l1 hu' ⟨.bl _, H, I, rfl, k⟩
    · obtain ⟨bs, rb⟩ := I.reads (Dt.tup hs ds) (u := Value.ref a) rfl
      cases neg with
      | false => exact SeqAt.in_tuple_reads rb ra l3 l1 hu' ⟨.bl _, H, I, rfl, k⟩
      | true => exact SeqAt.notIn_tuple_reads rb ra l3 l1 hu' ⟨.bl _, H, I, rfl, k⟩
  · cases e2
theorem memW_m {m m' : Mem} {x : W} {ys : List W} {c : Bool} (h : memW m x ys = .ok c m') : m' = m := by
  unfold memW at h
  split at h
  · cases h; rfl
  · cases h
theorem so_cmp (hu : X.A.units + 64 < cLine) (op : CmpOp) : OpR X (compareOp op) (SO2 X cl fun x y m => (cmpop op x y m).bind fun c m => .ok (.bl c) m) := by
  cases op with
  | Eq => exact so_eq hu
  | NotEq => exact so_ne hu
  | Lt =>
    intro pins s σ H x y v u Q I rx ry ⟨β, m, wx, wy, w, m', r, qx, qy, e, k⟩
    obtain ⟨c, m1, e1, e2⟩ := R.bind_ok e
    cases e2
    unfold cmpop at e1
    dsimp only at e1
    split at e1
    · cases e1; cases qx; cases qy
      exact op_lt pins s σ H _ _ v u Q I rx ry ⟨_, _, rfl, rfl, k _ _ _ Ext.refl r (.bl _)⟩
    · cases e1
  | LtE =>
    intro pins s σ H x y v u Q I rx ry ⟨β, m, wx, wy, w, m', r, qx, qy, e, k⟩
    obtain ⟨c, m1, e1, e2⟩ := R.bind_ok e
    cases e2
    unfold cmpop at e1
    dsimp only at e1
    split at e1
    · cases e1; cases qx; cases qy
      exact op_le pins s σ H _ _ v u Q I rx ry ⟨_, _, rfl, rfl, k _ _ _ Ext.refl r (.bl _)⟩
    · cases e1
  | Gt =>
    intro pins s σ H x y v u Q I rx ry ⟨β, m, wx, wy, w, m', r, qx, qy, e, k⟩
    obtain ⟨c, m1, e1, e2⟩ := R.bind_ok e
    cases e2
    unfold cmpop at e1
    dsimp only at e1
    split at e1
    · cases e1; cases qx; cases qy
      exact op_gt pins s σ H _ _ v u Q I rx ry ⟨_, _, rfl, rfl, k _ _ _ Ext.refl r (.bl _)⟩
    · cases e1
  | GtE =>
    intro pins s σ H x y v u Q I rx ry ⟨β, m, wx, wy, w, m', r, qx, qy, e, k⟩
    obtain ⟨c, m1, e1, e2⟩ := R.bind_ok e
    cases e2
    unfold cmpop at e1
    dsimp only at e1
    split at e1
    · cases e1; cases qx; cases qy
      exact op_ge pins s σ H _ _ v u Q I rx ry ⟨_, _, rfl, rfl, k _ _ _ Ext.refl r (.bl _)⟩
    · cases e1
  | Is => intro pins s σ H x y v u Q I rx ry ⟨β, m, wx, wy, w, m', r, qx, qy, e, k⟩; cases e
  | IsNot => intro pins s σ H x y v u Q I rx ry ⟨β, m, wx, wy, w, m', r, qx, qy, e, k⟩; cases e
  | In =>
    intro pins s σ H x y v u Q I rx ry ⟨β, m, wx, wy, w, m', r, qx, qy, e, k⟩
    obtain ⟨c, m1, e1, e2⟩ := R.bind_ok e
    cases e2
    unfold cmpop at e1
    dsimp only at e1
    split at e1
    · rename_i ys e0
      exact so_mem hu false I rx ry r qx qy e0 e1 fun z => by subst z; exact k _ _ _ Ext.refl r (.bl _)
    · cases e1
  | NotIn =>
    intro pins s σ H x y v u Q I rx ry ⟨β, m, wx, wy, w, m', r, qx, qy, e, k⟩
    obtain ⟨c, m1, e1, e2⟩ := R.bind_ok e
    cases e2
    unfold cmpop at e1
    dsimp only at e1
    split at e1
    · rename_i ys e0
      obtain ⟨c', m2, e3, e4⟩ := R.bind_ok e1
      cases e4
      exact so_mem hu true I rx ry r qx qy e0 e3 fun z => by subst z; exact k _ _ _ Ext.refl r (.bl _)
    · cases e1
theorem atI_rel {K : PySem.W.Frag} {β : List Addr} {H : Hp} {ws : List W} {vs : List V} {i : Int} {w : W} (t : RWs K β H ws vs) (e : atI ws i = some w) : ∃ v, atI vs i = some v ∧ RW K β H w v := by
  unfold atI at e ⊢
  rw [← t.length]
  cases h : ixN ws.length i with
  | none => rw [h] at e; cases e
  | some j => rw [h] at e; exact t.get e
theorem so_idx : IxR X (SO2 X cl idxop) := by
  intro value slice pins s σ H x y v u Q I rx ry h hs
  obtain ⟨β, m, wx, wy, w, m', r, qx, qy, e, k⟩ := h
  unfold idxop at e
  split at e
  · rename_i i
    split at e
    · rename_i ws e1
      split at e
      · rename_i w' e2
        cases e; cases qy
        obtain ⟨a, vs, rfl, hq, t⟩ := r.getS qx e1
        obtain ⟨z, e3, qz⟩ := atI_rel t e2
        rcases hq with hq | hq
        · exact ix_list value slice pins s σ H _ _ v u Q I rx ry ⟨_, _, _, _, rfl, rfl, hq, e3, k _ _ _ Ext.refl r qz⟩ hs
        · exact ix_tup value slice pins s σ H _ _ v u Q I rx ry ⟨_, _, _, _, rfl, rfl, hq, e3, k _ _ _ Ext.refl r qz⟩ hs
      · cases e
    · cases e
  · cases e
end
end D
end
section
set_option Elab.async false
set_option linter.all false
set_option maxRecDepth 100000
set_option autoImplicit false
namespace D
open PySem PySem.Spec PyProof.Rows L2
section
variable {X : L2.Cx} {cl : Nat → Addr} {C : D.Cx} {pos : Pos}
theorem s_var {i : Nat} {x : Str} (hN : X.N[i]? = some x) (hv : Vis X.env.scope x) (hd : (x == ("__debug__" : Str)) = false) (hcd : (x == ("__classdict__" : Str)) = false) : PE X (.Name x pos) (SE X cl (evE C (.var i))) := by
  refine PE.imp (pe_var hN hv hd hcd) ?_
  rintro σ H Q ⟨β, ρ, m, w, m', r, l, e, k⟩
  simp only [evE] at e
  split at e
  · rename_i w' e1
    cases e
    obtain ⟨v, e2, q⟩ := l.at_ e1
    exact ⟨v, e2, k _ _ _ Ext.refl r q⟩
  · cases e
theorem s_int {i : Int} {j : Nat} : PE X (.Constant (.int i) j pos) (SE X cl (evE C (.cst (.int i)))) := by
  refine PE.imp pe_int ?_
  rintro σ H Q ⟨β, ρ, m, w, m', r, l, e, k⟩
  simp only [evE] at e
  cases e
  exact k _ _ _ Ext.refl r (.int i)
theorem s_bl {i : Bool} {j : Nat} : PE X (.Constant (.bool i) j pos) (SE X cl (evE C (.cst (.bl i)))) := by
  refine PE.imp pe_bl ?_
  rintro σ H Q ⟨β, ρ, m, w, m', r, l, e, k⟩
  simp only [evE] at e
  cases e
  exact k _ _ _ Ext.refl r (.bl i)
theorem s_non {j : Nat} : PE X (.Constant .none j pos) (SE X cl (evE C (.cst .non))) := by
  refine PE.imp pe_non ?_
  rintro σ H Q ⟨β, ρ, m, w, m', r, l, e, k⟩
  simp only [evE] at e
  cases e
  exact k _ _ _ Ext.refl r .non
theorem s_str {x : Str} {j : Nat} : PE X (.Constant (.str x) j pos) (SE X cl (evE C (.cst (.str x)))) := by
  refine PE.imp pe_str ?_
  rintro σ H Q ⟨β, ρ, m, w, m', r, l, e, k⟩
  simp only [evE] at e
  cases e
  exact k _ _ _ Ext.refl r (.str x)
theorem s_glb {x : Str} {w : W} (hg : Gl X x) (h : ∃ u v, X.mg x = some u ∧ RelV v u ∧ ∀ β H, RW X.K β H w v) (hd : (x == ("__debug__" : Str)) = false) : PE X (.Name x pos) (SE X cl (evE C (.cst w))) := by
  obtain ⟨u, v, h1, h2, h3⟩ := h
  refine PE.imp (pe_glob hg h1 h2 hd) ?_
  rintro σ H Q ⟨β, ρ, m, w, m', r, l, e, k⟩
  simp only [evE] at e
  cases e
  exact k _ _ _ Ext.refl r (h3 _ _)
variable {a b c : Expr} {da db dc : E}
theorem s_bin {op : Operator} (ha : PE X a (SE X cl (evE C da))) (hb : PE X b (SE X cl (evE C db))) : PE X (.BinOp a op b pos) (SE X cl (evE C (.bin op da db))) := by
  refine PE.imp (pe_op (so_bin (cl := cl) op) ha hb) ?_
  rintro σ H Q ⟨β, ρ, m, w, m', r, l, e, k⟩
  simp only [evE] at e
  obtain ⟨x, m1, e1, e⟩ := R.bind_ok e
  obtain ⟨y, m2, e2, e⟩ := R.bind_ok e
  refine ⟨β, ρ, m, x, m1, r, l, e1, fun β1 H1 v1 x1 r1 q1 => ?_⟩
  refine ⟨β1, ρ, m1, y, m2, r1, l.mono r x1, e2, fun β2 H2 v2 x2 r2 q2 => ?_⟩
  exact ⟨β2, m2, x, y, w, m', r2, q1.mono r1 x2, q2, e, fun β3 H3 v x3 r3 q3 => k β3 H3 v ((x1.trans r1 x2).trans r2 x3) r3 q3⟩
theorem s_cmp {op : CmpOp} (hu : X.A.units + 64 < cLine) (ha : PE X a (SE X cl (evE C da))) (hb : PE X b (SE X cl (evE C db))) (hm : behindInMarks op b = false) : PE X (.Compare a [op] [b] pos) (SE X cl (evE C (.cmp op da db))) := by
  refine PE.imp (pe_cmpR (so_cmp (cl := cl) hu op) ha hb hm) ?_
  rintro σ H Q ⟨β, ρ, m, w, m', r, l, e, k⟩
  simp only [evE] at e
  obtain ⟨x, m1, e1, e⟩ := R.bind_ok e
  obtain ⟨y, m2, e2, e⟩ := R.bind_ok e
  refine ⟨β, ρ, m, x, m1, r, l, e1, fun β1 H1 v1 x1 r1 q1 => ?_⟩
  refine ⟨β1, ρ, m1, y, m2, r1, l.mono r x1, e2, fun β2 H2 v2 x2 r2 q2 => ?_⟩
  exact ⟨β2, m2, x, y, w, m', r2, q1.mono r1 x2, q2, e, fun β3 H3 v x3 r3 q3 => k β3 H3 v ((x1.trans r1 x2).trans r2 x3) r3 q3⟩
theorem t_cmp {op : CmpOp} (hu : X.A.units + 64 < cLine) (ha : PE X a (SE X cl (evE C da))) (hb : PE X b (SE X cl (evE C db))) (hm : behindInMarks op b = false) : PT X (.Compare a [op] [b] pos) (ST X cl (evT C (.cmp op da db))) := by
  refine PT.imp (pt_cmpR (so_cmp (cl := cl) hu op) ha hb hm) ?_
  rintro σ H Q ⟨β, ρ, m, w, m', r, l, e, k⟩
  simp only [evT] at e
  obtain ⟨x, m1, e1, e⟩ := R.bind_ok e
  obtain ⟨y, m2, e2, e⟩ := R.bind_ok e
  refine ⟨β, ρ, m, x, m1, r, l, e1, fun β1 H1 v1 x1 r1 q1 => ?_⟩
  refine ⟨β1, ρ, m1, y, m2, r1, l.mono r x1, e2, fun β2 H2 v2 x2 r2 q2 => ?_⟩
  refine ⟨β2, m2, x, y, .bl w, m', r2, q1.mono r1 x2, q2, by dsimp only; rw [e]; rfl, fun β3 H3 v x3 r3 q3 => ?_⟩
  cases q3
  exact ⟨w, rfl, k β3 H3 ((x1.trans r1 x2).trans r2 x3) r3⟩
theorem s_neg (ha : PE X a (SE X cl (evE C da))) : PE X (.UnaryOp .USub a pos) (SE X cl (evE C (.neg da))) := by
  refine PE.imp (pe_un un_neg ha) ?_
  rintro σ H Q ⟨β, ρ, m, w, m', r, l, e, k⟩
  simp only [evE] at e
  obtain ⟨x, m1, e1, e⟩ := R.bind_ok e
  refine ⟨β, ρ, m, x, m1, r, l, e1, fun β1 H1 v1 x1 r1 q1 => ?_⟩
  split at e
  · cases e; cases q1
    exact ⟨_, rfl, k _ _ _ x1 r1 (.int _)⟩
  · cases e
theorem s_not (ha : PE X a (SE X cl (evE C da))) : PE X (.UnaryOp .Not a pos) (SE X cl (evE C (.not da))) := by
  refine PE.imp (pe_not ha) ?_
  rintro σ H Q ⟨β, ρ, m, w, m', r, l, e, k⟩
  simp only [evE] at e
  obtain ⟨x, m1, e1, e⟩ := R.bind_ok e
  refine ⟨β, ρ, m, x, m1, r, l, e1, fun β1 H1 v1 x1 r1 q1 => ?_⟩
  split at e
  · cases e; cases q1
    exact ⟨_, rfl, k _ _ _ x1 r1 (.bl _)⟩
  · cases e
theorem t_not (ha : PT X a (ST X cl (evT C da))) : PT X (.UnaryOp .Not a pos) (ST X cl (evT C (.not da))) := by
  refine PT.imp (pt_not ha) ?_
  rintro σ H Q ⟨β, ρ, m, w, m', r, l, e, k⟩
  simp only [evT] at e
  obtain ⟨x, m1, e1, e⟩ := R.bind_ok e
  cases e
  exact ⟨β, ρ, m, x, _, r, l, e1, fun β1 H1 x1 r1 => k _ _ x1 r1⟩
variable {rest : List Expr}
theorem s_and (ha : PE X a (SE X cl (evE C da))) (hb : PE X (.BoolOp .And (b :: rest) pos) (SE X cl (evE C db))) : PE X (.BoolOp .And (a :: b :: rest) pos) (SE X cl (evE C (.and da db))) := by
  refine PE.imp (pe_and ha hb) ?_
  rintro σ H Q ⟨β, ρ, m, w, m', r, l, e, k⟩
  simp only [evE] at e
  obtain ⟨x, m1, e1, e⟩ := R.bind_ok e
  refine ⟨β, ρ, m, x, m1, r, l, e1, fun β1 H1 v1 x1 r1 q1 => ?_⟩
  split at e
  · rename_i c
    cases q1
    refine ⟨c, rfl, ?_⟩
    split at e
    · rename_i hc
      rw [if_pos hc]
      exact ⟨β1, ρ, m1, w, m', r1, l.mono r x1, e, fun β2 H2 v2 x2 r2 q2 => k _ _ _ (x1.trans r1 x2) r2 q2⟩
    · rename_i hc
      rw [if_neg hc]
      cases e
      exact k _ _ _ x1 r1 (.bl _)
  · cases e
theorem s_or (ha : PE X a (SE X cl (evE C da))) (hb : PE X (.BoolOp .Or (b :: rest) pos) (SE X cl (evE C db))) : PE X (.BoolOp .Or (a :: b :: rest) pos) (SE X cl (evE C (.or da db))) := by
  refine PE.imp (pe_or ha hb) ?_
  rintro σ H Q ⟨β, ρ, m, w, m', r, l, e, k⟩
  simp only [evE] at e
  obtain ⟨x, m1, e1, e⟩ := R.bind_ok e
  refine ⟨β, ρ, m, x, m1, r, l, e1, fun β1 H1 v1 x1 r1 q1 => ?_⟩
  split at e
  · rename_i c
    cases q1
    refine ⟨c, rfl, ?_⟩
    split at e
    · rename_i hc
      rw [if_pos hc]
      cases e
      exact k _ _ _ x1 r1 (.bl _)
    · rename_i hc
      rw [if_neg hc]
      exact ⟨β1, ρ, m1, w, m', r1, l.mono r x1, e, fun β2 H2 v2 x2 r2 q2 => k _ _ _ (x1.trans r1 x2) r2 q2⟩
  · cases e
theorem w_and (ha : PT X a (ST X cl (evT C da))) (hb : PW X (.BoolOp .And (b :: rest) pos) (ST X cl (evT C db))) : PW X (.BoolOp .And (a :: b :: rest) pos) (ST X cl (evT C (.and da db))) := by
  refine PW.imp (pw_and ha hb) ?_
  rintro σ H Q ⟨β, ρ, m, w, m', r, l, e, k⟩
  simp only [evT] at e
  obtain ⟨x, m1, e1, e⟩ := R.bind_ok e
  refine ⟨β, ρ, m, x, m1, r, l, e1, fun β1 H1 x1 r1 => ?_⟩
  split at e
  · rename_i hc
    rw [if_pos hc]
    exact ⟨β1, ρ, m1, w, m', r1, l.mono r x1, e, fun β2 H2 x2 r2 => k _ _ (x1.trans r1 x2) r2⟩
  · rename_i hc
    rw [if_neg hc]
    cases e
    exact k _ _ x1 r1
theorem w_or (ha : PT X a (ST X cl (evT C da))) (hb : PW X (.BoolOp .Or (b :: rest) pos) (ST X cl (evT C db))) : PW X (.BoolOp .Or (a :: b :: rest) pos) (ST X cl (evT C (.or da db))) := by
  refine PW.imp (pw_or ha hb) ?_
  rintro σ H Q ⟨β, ρ, m, w, m', r, l, e, k⟩
  simp only [evT] at e
  obtain ⟨x, m1, e1, e⟩ := R.bind_ok e
  refine ⟨β, ρ, m, x, m1, r, l, e1, fun β1 H1 x1 r1 => ?_⟩
  split at e
  · rename_i hc
    rw [if_pos hc]
    cases e
    exact k _ _ x1 r1
  · rename_i hc
    rw [if_neg hc]
    exact ⟨β1, ρ, m1, w, m', r1, l.mono r x1, e, fun β2 H2 x2 r2 => k _ _ (x1.trans r1 x2) r2⟩
theorem truthy_ok {K : PySem.W.Frag} {β : List Addr} {m m' : Mem} {H : Hp} {w : W} {v : V} {b : Bool} (r : Rel K cl β m H) (q : RW K β H w v) (e : truthy m w = .ok b m') : m' = m ∧ TruV K v H b := by
  cases q with
  | non => cases e; exact ⟨rfl, rfl⟩
  | bl c => cases e; exact ⟨rfl, rfl⟩
  | int i => cases e; exact ⟨rfl, rfl⟩
  | str x =>
    simp only [truthy] at e
    split at e
    · rename_i h
      cases e
      exact ⟨rfl, Nat.le_trans h lim_line, rfl⟩
    · cases e
  | tup h t =>
    cases e
    refine ⟨rfl, .inr (.inl ⟨_, h, ?_⟩)⟩
    cases t <;> rfl
  | fz h t =>
    cases e
    refine ⟨rfl, .inl ⟨_, h.l, ?_⟩⟩
    cases t <;> rfl
  | ref h =>
    simp only [truthy] at e
    split at e
    · rename_i xs e1
      cases e
      obtain ⟨a, vs, z, hs, t⟩ := r.getL (.ref h) e1
      cases z
      refine ⟨rfl, .inl ⟨_, hs, ?_⟩⟩
      cases t <;> rfl
    · cases e
theorem t_val (ha : PE X a (SE X cl (evE C da))) (he : ∀ whole, isTrue a X.env whole = (do let v ← whole; standAt a.pos; holding [v] (PySem.truthy v))) (hd : ∀ ρ m, evT C da ρ m = (evE C da ρ m).bind fun w m => D.truthy m w) : PT X a (ST X cl (evT C da)) := by
  refine PT.imp (pt_truth ha he) ?_
  rintro σ H Q ⟨β, ρ, m, w, m', r, l, e, k⟩
  rw [hd] at e
  obtain ⟨x, m1, e1, e⟩ := R.bind_ok e
  refine ⟨β, ρ, m, x, m1, r, l, e1, fun β1 H1 v1 x1 r1 q1 => ?_⟩
  obtain ⟨rfl, z⟩ := truthy_ok r1 q1 e
  exact ⟨w, z, k _ _ x1 r1⟩
theorem s_ife {t : Expr} {dt : E} (ht : PT X t (ST X cl (evT C dt))) (ha : PE X a (SE X cl (evE C da))) (hb : PE X b (SE X cl (evE C db))) : PE X (.IfExp t a b pos) (SE X cl (evE C (.ife dt da db))) := by
  refine PE.imp (pe_ifExp ht ha hb) ?_
  rintro σ H Q ⟨β, ρ, m, w, m', r, l, e, k⟩
  simp only [evE] at e
  obtain ⟨x, m1, e1, e⟩ := R.bind_ok e
  refine ⟨β, ρ, m, x, m1, r, l, e1, fun β1 H1 x1 r1 => ?_⟩
  split at e
  · rename_i hc
    rw [if_pos hc]
    exact ⟨β1, ρ, m1, w, m', r1, l.mono r x1, e, fun β2 H2 v2 x2 r2 q2 => k _ _ _ (x1.trans r1 x2) r2 q2⟩
  · rename_i hc
    rw [if_neg hc]
    exact ⟨β1, ρ, m1, w, m', r1, l.mono r x1, e, fun β2 H2 v2 x2 r2 q2 => k _ _ _ (x1.trans r1 x2) r2 q2⟩
theorem s_chain {o1 o2 : CmpOp} (hu : X.A.units + 64 < cLine) (ha : PE X a (SE X cl (evE C da))) (hb : PE X b (SE X cl (evE C db))) (hc : PE X c (SE X cl (evE C dc)))
    (h : PE X (.Compare a [o1, o2] [b, c] pos) (tChain (SO2 X cl fun x y m => (cmpop o1 x y m).bind fun c m => .ok (.bl c) m) (SO2 X cl fun x y m => (cmpop o2 x y m).bind fun c m => .ok (.bl c) m) (SE X cl (evE C da)) (SE X cl (evE C db)) (SE X cl (evE C dc)))) :
    PE X (.Compare a [o1, o2] [b, c] pos) (SE X cl (evE C (.chain o1 o2 da db dc))) := by
  refine PE.imp h ?_
  rintro σ H Q ⟨β, ρ, m, w, m', r, l, e, k⟩
  simp only [evE] at e
  obtain ⟨x, m1, e1, e⟩ := R.bind_ok e
  obtain ⟨y, m2, e2, e⟩ := R.bind_ok e
  obtain ⟨z, m3, e3, e⟩ := R.bind_ok e
  refine ⟨β, ρ, m, x, m1, r, l, e1, fun β1 H1 v1 x1 r1 q1 => ?_⟩
  refine ⟨β1, ρ, m1, y, m2, r1, l.mono r x1, e2, fun β2 H2 v2 x2 r2 q2 => ?_⟩
  have l2 := (l.mono r x1).mono r1 x2
  refine ⟨β2, m2, x, y, .bl z, m3, r2, q1.mono r1 x2, q2, by dsimp only; rw [e3]; rfl, fun β3 H3 v3 x3 r3 q3 => ?_⟩
  cases q3
  refine ⟨z, rfl, ?_⟩
  have x03 := (x1.trans r1 x2).trans r2 x3
  split at e
  · rename_i hc
    rw [if_pos hc]
    obtain ⟨u, m4, e4, e⟩ := R.bind_ok e
    refine ⟨β3, ρ, m3, u, m4, r3, l2.mono r2 x3, e4, fun β4 H4 v4 x4 r4 q4 => ?_⟩
    exact ⟨β4, m4, y, u, w, m', r4, (q2.mono r2 x3).mono r3 x4, q4, e, fun β5 H5 v5 x5 r5 q5 => k _ _ _ ((x03.trans r3 x4).trans r4 x5) r5 q5⟩
  · rename_i hc
    rw [if_neg hc]
    cases e
    exact k _ _ _ x03 r3 (.bl _)
theorem a_nil : PA X [] (SA X cl (evEs C .nil)) := by
  refine PA.imp pa_nil ?_
  rintro σ H Q ⟨β, ρ, m, w, m', r, l, e, k⟩
  simp only [evEs] at e
  cases e
  exact k _ _ _ Ext.refl r .nil
theorem a_cons {es : List Expr} {d : E} {ds : Es} (ha : PE X a (SE X cl (evE C d))) (hr : PA X es (SA X cl (evEs C ds))) (hs : starEach (a :: es) X.env = (false, eval a X.env) :: starEach es X.env) : PA X (a :: es) (SA X cl (evEs C (.cons d ds))) := by
  refine PA.imp (pa_cons ha hr hs) ?_
  rintro σ H Q ⟨β, ρ, m, w, m', r, l, e, k⟩
  simp only [evEs] at e
  obtain ⟨x, m1, e1, e⟩ := R.bind_ok e
  obtain ⟨y, m2, e2, e⟩ := R.bind_ok e
  cases e
  refine ⟨β, ρ, m, x, m1, r, l, e1, fun β1 H1 v1 x1 r1 q1 => ?_⟩
  exact ⟨β1, ρ, m1, y, _, r1, l.mono r x1, e2, fun β2 H2 v2 x2 r2 q2 => k _ _ _ (x1.trans r1 x2) r2 (.cons (q1.mono r1 x2) q2)⟩
theorem s_tup {es : List Expr} {ds : Es} {x1} (ha : PA X es (SA X cl (evEs C ds))) : PE X (.Tuple es x1 pos) (SE X cl (evE C (.tup ds))) := by
  refine PE.imp (pe_tup ha) ?_
  rintro σ H Q ⟨β, ρ, m, w, m', r, l, e, k⟩
  simp only [evE] at e
  obtain ⟨x, m1, e1, e⟩ := R.bind_ok e
  split at e
  · rename_i hl
    cases e
    refine ⟨β, ρ, m, x, _, r, l, e1, fun β1 H1 v1 x1 r1 q1 => ⟨by rw [← q1.length]; exact Nat.le_trans hl lim_line, fun p hp => ?_⟩⟩
    obtain ⟨x2, r2⟩ := r1.newT hp v1
    exact k _ _ _ (x1.trans r1 x2) r2 (.tup (.of upd_same) (q1.mono r1 x2))
  · cases e
theorem s_lst {es : List Expr} {ds : Es} (ha : PA X es (SA X cl (evEs C ds))) : PE X (.List es pos) (SE X cl (evE C (.lst ds))) := by
  refine PE.imp (pe_lst ha) ?_
  rintro σ H Q ⟨β, ρ, m, w, m', r, l, e, k⟩
  simp only [evE] at e
  obtain ⟨x, m1, e1, e⟩ := R.bind_ok e
  split at e
  · rename_i hl
    cases e
    refine ⟨β, ρ, m, x, _, r, l, e1, fun β1 H1 v1 x1 r1 q1 => ⟨by rw [← q1.length]; exact Nat.le_trans hl lim_line, fun p hp => ?_⟩⟩
    obtain ⟨x2, r2⟩ := r1.newL hp q1
    exact k _ _ _ (x1.trans r1 x2) r2 (.ref (r1.last p))
  · cases e
theorem s_idx (ha : PE X a (SE X cl (evE C da))) (hb : PE X b (SE X cl (evE C db))) (hs : PlainIx b) : PE X (.Subscript a b pos) (SE X cl (evE C (.idx da db))) := by
  refine PE.imp (pe_ix (so_idx (cl := cl)) ha hb hs) ?_
  rintro σ H Q ⟨β, ρ, m, w, m', r, l, e, k⟩
  simp only [evE] at e
  obtain ⟨x, m1, e1, e⟩ := R.bind_ok e
  obtain ⟨y, m2, e2, e⟩ := R.bind_ok e
  refine ⟨β, ρ, m, x, m1, r, l, e1, fun β1 H1 v1 x1 r1 q1 => ?_⟩
  refine ⟨β1, ρ, m1, y, m2, r1, l.mono r x1, e2, fun β2 H2 v2 x2 r2 q2 => ?_⟩
  exact ⟨β2, m2, x, y, w, m', r2, q1.mono r1 x2, q2, e, fun β3 H3 v x3 r3 q3 => k β3 H3 v ((x1.trans r1 x2).trans r2 x3) r3 q3⟩
theorem o_none : PO X none (SOo X cl (evO C .none)) := by
  refine PO.imp po_none ?_
  rintro σ H Q ⟨β, ρ, m, w, m', r, l, e, k⟩
  simp only [evO] at e
  cases e
  exact k _ _ Ext.refl r
theorem o_some (ha : PE X a (SE X cl (evE C da))) : PO X (some a) (SOo X cl (evO C (.some da))) := by
  refine PO.imp (po_some ha) ?_
  rintro σ H Q ⟨β, ρ, m, w, m', r, l, e, k⟩
  simp only [evO] at e
  obtain ⟨x, m1, e1, e⟩ := R.bind_ok e
  refine ⟨β, ρ, m, x, m1, r, l, e1, fun β1 H1 v1 x1 r1 q1 => ?_⟩
  split at e
  · cases e; cases q1
    exact ⟨_, rfl, k _ _ x1 r1⟩
  · cases e
theorem cut_rel {K : PySem.W.Frag} {β : List Addr} {H : Hp} {ws : List W} {vs : List V} {lo hi : Option Int} (t : RWs K β H ws vs) : RWs K β H (cutW ws lo hi) (cutV vs lo hi) := by
  unfold cutW cutV
  rw [← t.length]
  exact (t.drop _).take _
theorem so_slc : SlR X (fun x lo hi H Q => ∃ β m wx w m', Rel X.K cl β m H ∧ RW X.K β H wx x ∧ slcop wx lo hi m = .ok w m' ∧ ∀ β' H' v, Ext β H β' H' → Rel X.K cl β' m' H' → RW X.K β' H' w v → Q v H') := by
  intro pins s σ H x v vl vu lo hi sl Q I rx hs pl pu h
  obtain ⟨β, m, wx, w, m', r, q, e, k⟩ := h
  unfold slcop at e
  split at e
  · split at e
    · cases e
    · rename_i hw
      cases e
      cases q with
      | tup h t =>
        refine sl_tup pins s σ H _ v vl vu lo hi sl Q I rx hs pl pu ⟨_, _, rfl, h, by rw [← t.length]; exact hw, fun p hp => ?_⟩
        obtain ⟨x2, r2⟩ := r.newT hp (cutV _ lo hi)
        exact k _ _ _ x2 r2 (.tup (.of upd_same) ((cut_rel t).mono r x2))
  · split at e
    · rename_i xs e1
      cases e
      obtain ⟨a, vs, rfl, hs', t⟩ := r.getL q e1
      refine sl_list pins s σ H _ v vl vu lo hi sl Q I rx hs pl pu ⟨_, _, rfl, hs', fun p hp => ?_⟩
      obtain ⟨x2, r2⟩ := r.newL hp (cut_rel t)
      exact k _ _ _ x2 r2 (.ref (r.last p))
    · cases e
  · cases e
theorem s_slc {lo hi : Option Expr} {dl dh : Oe} {p2 : Pos} (ha : PE X a (SE X cl (evE C da))) (hl : PO X lo (SOo X cl (evO C dl))) (hh : PO X hi (SOo X cl (evO C dh))) : PE X (.Subscript a (.Slice lo hi none p2) pos) (SE X cl (evE C (.slc da dl dh))) := by
  refine PE.imp (pe_slice (so_slc (cl := cl)) ha hl hh) ?_
  rintro σ H Q ⟨β, ρ, m, w, m', r, l, e, k⟩
  simp only [evE] at e
  obtain ⟨x, m1, e1, e⟩ := R.bind_ok e
  obtain ⟨y, m2, e2, e⟩ := R.bind_ok e
  obtain ⟨z, m3, e3, e⟩ := R.bind_ok e
  refine ⟨β, ρ, m, x, m1, r, l, e1, fun β1 H1 v1 x1 r1 q1 => ?_⟩
  refine ⟨β1, ρ, m1, y, m2, r1, l.mono r x1, e2, fun β2 H2 x2 r2 => ?_⟩
  refine ⟨β2, ρ, m2, z, m3, r2, (l.mono r x1).mono r1 x2, e3, fun β3 H3 x3 r3 => ?_⟩
  exact ⟨β3, m3, x, w, m', r3, (q1.mono r1 x2).mono r2 x3, e, fun β4 H4 v x4 r4 q4 => k _ _ _ (((x1.trans r1 x2).trans r2 x3).trans r3 x4) r4 q4⟩
end
end D
end
section
set_option Elab.async false
set_option linter.all false
set_option maxRecDepth 100000
set_option autoImplicit false
namespace D
open PySem PySem.Spec PyProof.Rows L2 PySem.W
theorem kas_det {α : Type} {cmp : Nat → Nat → (Bool → Shared → Prop) → Shared → Prop} {n : Nat} {ans : Nat → Nat → Bool} {s : Shared} (hc : ∀ i j (Q : Bool → Shared → Prop), i < n → j < n → Q (ans i j) s → cmp i j Q s) {Q : α → Shared → Prop} : ∀ {t : KasT α} {a : α}, runT n ans t = some a → Q a s → t.kasWp cmp Q s
  | .ret a, _, h, q => by cases h; exact q
  | .ask i j k, a, h, q => by
    unfold runT at h
    split at h
    · rename_i hij
      exact hc i j _ hij.1 hij.2 (kas_det hc h q)
    · cases h
def TIs (K : PySem.W.Frag) (H : Hp) (v : V) (ns : List Int) : Prop := ∃ a, v = .ref a ∧ SqT K H a (ns.map V.int)
section
variable {X : L2.Cx}
theorem lexLt_go {prog : Program} {w : World} {A : Around} {Q : Bool → Shared → Prop} {s : Shared} {fin : Bool} : ∀ {us ws : List Value} {ns ms : List Int} {i : Nat}, IntsAre us ns → IntsAre ws ms → ns.length = ms.length → fin = false → Q (HT.lexLt ns ms) s → KatLex prog w A true fin Q (us.zip ws) i s
  | _, _, _, _, i, .nil, .nil, _, hf, q => by subst hf; exact kat_nil q
  | _, _, _, _, i, .nil, .cons _ _ _, hl, _, _ => by simp at hl
  | _, _, _, _, i, .cons _ _ _, .nil, hl, _, _ => by simp at hl
  | _, _, _, _, i, .cons a t hu, .cons c u hw, hl, hf, q => by
    rw [List.zip_cons_cons]
    refine kat_cons (wpAny_eqBool_int ?_)
    rw [HT.lexLt_cons] at q
    by_cases e : a = c
    · have : (a == c) = true := by simpa using e
      rw [this]
      rw [if_pos e] at q
      exact kat_yes (lexLt_go hu hw (by simpa using hl) hf q)
    · have : (a == c) = false := by simpa using e
      rw [this]
      rw [if_neg e] at q
      refine kat_no ?_
      cases hb : (true && i == 0) with
      | true => exact oneLt_int q
      | false => exact kat_one _ _ (lt_int q)
theorem call_sortedT : CallR X (.builtin "sorted") (fun xs H Q => ∃ (p : Addr) (ys : List V) (tss : List (List Int)) (k : Nat) (pm : Array Nat), xs = [.ref p] ∧ SqL X.K H p ys ∧ Paired (TIs X.K H) ys tss ∧ (∀ t ∈ tss, t.length = k + 1) ∧ 2 ≤ ys.length ∧ ys.length < 64 ∧
    runT ys.length (fun i j => HT.lexLt (tss.getD i []) (tss.getD j [])) (kas_sort ys.length) = some pm ∧ pm.size ≤ 64 ∧ ∀ l, H l = none → Q (.ref l) (upd H l (.lst (pm.toList.map fun i => ys.getD i .non)))) := by
  intro pins s σ H xs us Q I rv h
  obtain ⟨p, ys, tss, k, pm, rfl, hq, hp, hk, h2, h64, hr, hpm, q⟩ := h
  obtain ⟨u, rfl, rx⟩ := vals1 rv
  cases rx
  obtain ⟨its, rvs, pl, hz⟩ := I.list hq
  obtain ⟨m, F⟩ := I.fr
  have hlen := rvs.length
  rw [hlen] at h2 h64 hr
  refine kat_sorted F (news_all (g := X.base) (h := s.heap) (L := X.env.locals)) pl.isList h2 h64 fun D e1 h' F' N' hD => ?_
  have kept : ∀ b o, b ≠ X.env.locals → s.heap.get? b = some o → h'.get? b = some o := fun b o hb e => by
    cases z : X.base.get? b with
    | some u =>
      have := I.bk b u z
      rw [e] at this; cases this
      exact F'.keep b _ z
    | none => exact (N' (b, o) (.tail _ (mem_allNews hb z e))).1
  have tupAt : ∀ {a : Addr} {ns : List Int}, SqT X.K H a (ns.map V.int) → ∃ its' : List Value, IntsAre its' ns ∧ ∃ o n, h'.get? a = some o ∧ o.cls = .type "tuple" ∧ o.data = .seq its'.toArray n := fun {a ns} ht => by
    obtain ⟨its', rv', ⟨o, e1, e2, n, e3⟩, _⟩ := I.tuple ht
    have na : a ≠ X.env.locals := by
      rintro rfl
      obtain ⟨m', ⟨o', es, ep, e', d', _⟩, _⟩ := I.loc
      rw [e'] at e1; cases e1
      rw [d'] at e3; cases e3
    exact ⟨its', intsAre_of rv', o, n, kept a o na e1, e2, e3⟩
  have firsts : ∃ fs : List Value, KatTups h' its fs ∧ fs.length = its.length ∧ ∀ v ∈ fs, ∃ i t, v = .int i t := by
    clear hr q h2 h64 hz pl hlen hq
    induction hp generalizing its with
    | nil => cases rvs; exact ⟨[], .nil, rfl, by simp⟩
    | @cons v ns ys tss hv ht ih =>
      cases rvs with
      | cons r rr =>
        obtain ⟨fs, f1, f2, f3⟩ := ih (fun t ht => hk t (List.mem_cons_of_mem _ ht)) _ rr
        obtain ⟨a, rfl, hs⟩ := hv
        cases r
        obtain ⟨its', hi, o, n, e1, e2, e3⟩ := tupAt hs
        have hl := hk ns List.mem_cons_self
        cases hi with
        | nil => simp at hl
        | cons c t hi' =>
          exact ⟨.int c t :: fs, .cons e1 e2 e3 rfl f1, by simp [f2], fun v hv => (List.mem_cons.mp hv).elim (fun e => ⟨c, t, e⟩) (f3 v)⟩
  obtain ⟨fs, f1, f2, f3⟩ := firsts
  refine kat_kind (s := { s with heap := h' }) (T := .type "int") f1 (by omega) (fun v hv => ?_) rfl ?_
  · obtain ⟨i, t, rfl⟩ := f3 v hv
    exact Looks.now
  refine kas_det (n := its.length) (ans := fun i j => HT.lexLt (tss.getD i []) (tss.getD j [])) (fun i j C hi hj hc => ?_) hr ?_
  ·
    have item : ∀ i, i < its.length → ∃ a ns, its.getD i Value.none = .ref a ∧ tss.getD i [] = ns ∧ ns.length = k + 1 ∧ SqT X.K H a (ns.map V.int) := fun i hi => by
      have hy : i < ys.length := by rw [hlen]; exact hi
      obtain ⟨u, e1, r1⟩ := rvs.get (i := i) (x := ys[i]) (by simp [hy])
      have : ∀ {ys : List V} {tss : List (List Int)} {i : Nat} {y : V}, Paired (TIs X.K H) ys tss → ys[i]? = some y → ∃ t, tss[i]? = some t ∧ TIs X.K H y t := by
        intro ys tss i y hp
        induction hp generalizing i with
        | nil => intro e; simp at e
        | @cons a b l1 l2 h t ih =>
          intro e
          cases i with
          | zero => simp at e; subst e; exact ⟨_, rfl, h⟩
          | succ i => simpa using ih (by simpa using e)
      obtain ⟨t, e2, a, e3, hs⟩ := this hp (by simp [hy] : ys[i]? = some ys[i])
      rw [e3] at r1
      cases r1
      exact ⟨a, t, by simp [e1], by simp [e2], hk t (List.mem_of_getElem? e2), hs⟩
    obtain ⟨a, ns, x1, x2, x3, x4⟩ := item i hi
    obtain ⟨b, ms, y1, y2, y3, y4⟩ := item j hj
    obtain ⟨itsA, ia, oa, na, ea1, ea2, ea3⟩ := tupAt x4
    obtain ⟨itsB, ib, ob, nb, eb1, eb2, eb3⟩ := tupAt y4
    show wpAny _ _ (keyLt' (tuples' true) (its.getD i Value.none) (its.getD j Value.none)) C (fun _ _ => False) _
    rw [x1, y1]
    rw [x2, y2] at hc
    refine kat_lt (s := { s with heap := h' }) ea1 ea3 eb1 eb3 (lexLt_go ia ib (by omega) ?_ hc)
    have l1 := ia.length
    have l2 := ib.length
    simp
    omega
  ·
    have hHD : H D = none := by
      cases z : H D with
      | none => rfl
      | some o =>
        obtain ⟨ob, eo⟩ : ∃ ob, s.heap.get? D = some ob := by
          have hlt := I.hok.lt z
          cases y : s.heap.get? D with
          | some ob => exact ⟨ob, rfl⟩
          | none =>
            have x := I.hok D o z
            cases o with
            | lst xs => obtain ⟨_, _, _, _, e⟩ := x; rw [y] at e; cases e
            | tup xs => obtain ⟨_, _, _, o', e, _⟩ := x; rw [y] at e; cases e
            | dK kvs => obtain ⟨_, _, _, _, o', _, _, e, _⟩ := x; rw [y] at e; cases e
            | dT kvs => obtain ⟨_, _, _, _, o', _, _, e, _⟩ := x; rw [y] at e; cases e
            | set S n => obtain ⟨o', _, _, _, e, _⟩ := x; rw [y] at e; cases e
            | ins C dx fs => obtain ⟨_, _, _, e, _⟩ := x; rw [y] at e; cases e
            | own w => obtain ⟨_, e⟩ := x; rw [y] at e; cases e
            | xd fs => obtain ⟨_, ⟨_, _, _, e, _⟩, _⟩ := x; rw [y] at e; cases e
            | rng lo hi => obtain ⟨_, _, _, e⟩ := x; rw [y] at e; cases e
            | frz ob u => obtain ⟨e, _⟩ := x; rw [y] at e; cases e
            | tbl ps => have e : s.heap.get? D = some _ := x; rw [y] at e; cases e
            | met f w => have e : s.heap.get? D = some _ := x; rw [y] at e; cases e
            | ext φ => obtain ⟨_, ⟨_, e⟩, _⟩ := x; rw [y] at e; cases e
        have nL : D ≠ X.env.locals := fun e => by rw [e, I.free] at z; cases z
        have nb : X.base.get? D = none := by
          cases y : X.base.get? D with
          | none => rfl
          | some u => have := (I.bs D u y).2; rw [z] at this; cases this
        exact absurd (hD (D, ob) (mem_allNews nL nb eo)) (Nat.lt_irrefl _)
    refine KasFin.intro F' N' (.head fun q hq => Nat.ne_of_lt (hD q hq)) fun h'' c F'' N'' => ?_
    have nD := N'' (D, listOf _ c) (.head _)
    have kept2 : ∀ b o, b ≠ X.env.locals → s.heap.get? b = some o → h''.get? b = some o := fun b o hb e => by
      cases z : X.base.get? b with
      | some u =>
        have := I.bk b u z
        rw [e] at this; cases this
        exact F''.keep b _ z
      | none => exact (N'' (b, o) (.tail _ (mem_allNews hb z e))).1
    have outs : Vals (pm.toList.map fun i => ys.getD i .non) (pm.toList.map fun i => its.getD i Value.none) := by
      have : ∀ l : List Nat, Vals (l.map fun i => ys.getD i .non) (l.map fun i => its.getD i Value.none) := fun l => by
        induction l with
        | nil => exact .nil
        | cons i l ih =>
          refine .cons ?_ ih
          by_cases hi : i < ys.length
          · obtain ⟨u, e1, r1⟩ := rvs.get (i := i) (x := ys[i]) (by simp [hi])
            simp only [List.getD, e1, Option.getD_some, List.getElem?_eq_getElem hi]
            exact r1
          · have h1 : ys[i]? = none := List.getElem?_eq_none_iff.mpr (by omega)
            have h2 : its[i]? = none := List.getElem?_eq_none_iff.mpr (by omega)
            simp only [List.getD, h1, h2, Option.getD_none]
            rfl
      exact this _
    have sz : (pm.toList.map fun i => ys.getD i .non).length ≤ sizeLine := by
      rw [List.length_map, Array.length_toList]
      exact Nat.le_trans hpm (by rw [sizeLine_eq]; decide)
    have hL := I.lt
    have noL : ∀ b u, H b = some u → b ≠ X.env.locals := fun b u e z => by rw [z, I.free] at e; cases e
    have hok : HOk X.prog X.w (upd H D (.lst (pm.toList.map fun i => ys.getD i .non))) h'' := fun b u e => by
      by_cases hb : b = D
      · subst hb
        rw [upd_same] at e
        cases e
        exact ⟨sz, _, c, outs, nD.1⟩
      · rw [upd_ne hb] at e
        exact (I.hok b u e).stay (fun c' v hc q => kept2 c' v (by
          rcases hc with z | z
          · rw [z]; exact noL b u e
          · exact noL c' _ z) q) (fun c' q => by rw [upd_ne (ne_of_none q hHD)]; exact q) fun c' xs q => by rw [upd_ne (ne_of_none q hHD)]; exact q
    have nDs : ∀ b o, s.heap.get? b = some o → b ≠ X.env.locals → X.base.get? b = none → b ≠ D := fun b o e n1 n2 => Nat.ne_of_lt (hD (b, o) (mem_allNews n1 n2 e))
    have I2 : Inv X pins σ (upd H D (.lst (pm.toList.map fun i => ys.getD i .non))) { s with heap := h'', toks := s.toks } := by
      refine I.step (g' := s.gens) (d' := s.drawn) (ch := []) (fun _ z => nomatch z) (fun b o n1 _ _ e _ => kept2 b o n1 e) (fun b o n1 _ _ e _ => ⟨o.slots, kept2 b o n1 e⟩) (fun b o _ e n => ?_) (fun b o _ e => ?_)
        (fun b xs e => by rw [upd_ne (ne_of_none e hHD)]; exact e) (fun b o u e => by rw [upd_ne (ne_of_none e hHD)]; exact e) (fun b ps e => ⟨#[], by rw [upd_ne (ne_of_none e hHD), e]; simp⟩) (fun m' hm => ?_) hok I.bare
      · rw [upd_ne ?_]
        · exact n
        · rintro rfl
          by_cases h1 : b = X.env.locals
          · exact nD.2.1 h1
          · cases h2 : X.base.get? b with
            | some u => rw [nD.2.2] at h2; cases h2
            | none => exact nDs b o e h1 h2 rfl
      · by_cases h1 : b = X.env.locals
        · subst h1
          obtain ⟨o', _, _, e', _⟩ := F''.ns
          exact ⟨o', e'⟩
        · exact ⟨o, kept2 b o h1 e⟩
      · have := hm.eq_nsMap.trans F.ns.eq_nsMap.symm
        rw [this]; exact F''.ns
    exact ⟨.ref D, _, I2, rfl, q D hHD⟩
end
end D
end
section
set_option Elab.async false
set_option linter.all false
set_option maxRecDepth 100000
set_option autoImplicit false
namespace D
open PySem PySem.Spec PyProof.Rows L2
section
variable {X : L2.Cx} {cl : Nat → Addr} {C : D.Cx} {pos : Pos}
theorem any_getD (bs : List Bool) : ((List.range bs.length).any fun i => bs.getD i true) = bs.any id := by
  have e : ∀ (f g : Nat → Bool) (l : List Nat), (∀ i ∈ l, f i = g i) → l.any f = l.any g := fun f g l h => by
    induction l with
    | nil => rfl
    | cons x r ih => rw [List.any_cons, List.any_cons, h x List.mem_cons_self, ih fun i hi => h i (List.mem_cons_of_mem _ hi)]
  induction bs with
  | nil => rfl
  | cons b r ih =>
    rw [List.length_cons, List.range_succ_eq_map, List.any_cons, List.any_map, List.any_cons]
    have : ((List.range r.length).any ((fun i => (b :: r).getD i true) ∘ Nat.succ)) = ((List.range r.length).any fun i => r.getD i true) := e _ _ _ fun i _ => by simp
    rw [this, ih]
    rfl
theorem call_any (hh : X.A.handled = none) : CallR X (.builtin "any") (fun xs H Q => ∃ (p : Addr) (bs : List Bool), xs = [.ref p] ∧ SqL X.K H p (bs.map V.bl) ∧ Q (.bl (bs.any id)) H) := by
  intro pins s σ H xs us Q I r h
  obtain ⟨p, bs, rfl, hq, q⟩ := h
  obtain ⟨u, rfl, rx⟩ := vals1 r
  cases rx
  obtain ⟨its, rv, pl, hz⟩ := I.list hq
  have hl := pl.isList
  have hlt : p < s.heap.objs.size := by obtain ⟨_, e, _⟩ := hl; exact Heap.lt_size e
  have len := rv.length
  rw [List.length_map] at len
  refine call_any_walk (wpAny_pyIter_list hl ?_)
  refine ⟨_, _, _, _, _, _, (fun i => bs.getD i true), rfl, Walks.list (A := X.A.in1) hh s.heap.objs.size p (Nat.ne_of_lt hlt) its.toArray, ⟨⟨_, Heap.get?_push_size _ rfl, rfl, rfl⟩, hl.push _⟩, ?_, ?_⟩
  · intro i v s' Q' E' hv hq'
    have hv : its[i]? = some v := by simpa using hv
    have hi : i < its.length := (List.getElem?_eq_some_iff.mp hv).1
    have hb : i < bs.length := by omega
    have e : (bs.map V.bl)[i]? = some (V.bl (bs[i])) := by simp [hb]
    obtain ⟨u, hu, ru⟩ := rv.get e
    rw [hv] at hu
    cases hu
    cases ru
    have : bs.getD i true = bs[i] := by simp [List.getD, hb]
    dsimp only at hq'
    rw [this] at hq'
    exact wpAny_truthy_bool hq'
  · intro h' tk hk
    have e : ((List.range its.toArray.size).any fun i => bs.getD i true) = bs.any id := by
      rw [List.size_toArray, ← len]
      exact any_getD bs
    rw [e]
    refine ⟨.bl _, H, I.kept (t' := tk) fun b o eb => hk b o (fun z => ?_) (Heap.get?_push_of_some _ eb), rfl, q⟩
    rw [List.mem_singleton] at z
    exact Nat.ne_of_lt (Heap.lt_size eb) z
def bval : B → Value
  | .len => .builtin "len" | .abs => .builtin "abs" | .max => .builtin "max" | .min => .builtin "min" | .divmod => .builtin "divmod" | .all => .builtin "all" | .any => .builtin "any"
  | .list => .type "list" | .tuple => .type "tuple" | .int => .type "int" | .sorted => .builtin "sorted" | .sum => .builtin "sum"
theorem rws1 {K : PySem.W.Frag} {β : List Addr} {H : Hp} {w : W} {vs : List V} (h : RWs K β H [w] vs) : ∃ v, vs = [v] ∧ RW K β H w v := by
  cases h with
  | cons q t => cases t; exact ⟨_, rfl, q⟩
theorem rws2 {K : PySem.W.Frag} {β : List Addr} {H : Hp} {w w' : W} {vs : List V} (h : RWs K β H [w, w'] vs) : ∃ v v', vs = [v, v'] ∧ RW K β H w v ∧ RW K β H w' v' := by
  cases h with
  | cons q t => obtain ⟨v', rfl, q'⟩ := rws1 t; exact ⟨_, _, rfl, q, q'⟩
theorem RWs.pick {K : PySem.W.Frag} {β : List Addr} {H : Hp} {ws : List W} {vs : List V} (t : RWs K β H ws vs) : ∀ (is : List Nat), RWs K β H (is.map fun i => ws.getD i .non) (is.map fun i => vs.getD i .non)
  | [] => .nil
  | i :: is => by
    refine .cons ?_ (t.pick is)
    dsimp only
    by_cases h : i < ws.length
    · obtain ⟨v, e, q⟩ := t.get (i := i) (w := ws[i]) (by simp [h])
      have h1 : ws.getD i .non = ws[i] := by simp [List.getD, h]
      have h2 : vs.getD i .non = v := by simp [List.getD, e]
      rw [h1, h2]; exact q
    · have h' : ¬ i < vs.length := by rw [← t.length]; exact h
      have h1 : ws.getD i .non = .non := by simp [List.getD, List.getElem?_eq_none (Nat.le_of_not_lt h)]
      have h2 : vs.getD i .non = .non := by simp [List.getD, List.getElem?_eq_none (Nat.le_of_not_lt h')]
      rw [h1, h2]; exact .non
theorem RWs.intsW {K : PySem.W.Frag} {β : List Addr} {H : Hp} : ∀ {ws : List W} {vs : List V} {ns : List Int}, RWs K β H ws vs → D.intsW ws = some ns → vs = ns.map V.int
  | _, _, _, .nil, h => by cases h; rfl
  | _, _, _, .cons (w := w) q t, h => by
    cases w with
    | int i =>
      simp only [D.intsW, Option.map_eq_some_iff] at h
      obtain ⟨r, h1, rfl⟩ := h
      cases q
      rw [t.intsW h1]; rfl
    | _ => cases h
theorem RWs.tups {K : PySem.W.Frag} {β : List Addr} {H : Hp} : ∀ {ws : List W} {vs : List V} {tss : List (List Int)}, RWs K β H ws vs → allD intTup ws = some tss → Paired (TIs K H) vs tss
  | _, _, _, .nil, h => by cases h; exact .nil
  | _, _, _, .cons (w := w) q t, h => by
    simp only [allD] at h
    split at h
    · cases h
    · rename_i d h1
      split at h
      · cases h
      · rename_i ds h2
        cases h
        refine .cons ?_ (t.tups h2)
        cases w with
        | tup xs =>
          cases q with
          | tup hs t' =>
            have := t'.intsW h1
            subst this
            exact ⟨_, rfl, hs⟩
        | _ => cases h1
theorem so_blt (hc : X.calm = true) (hh : X.A.handled = none) (b : B) : CallR X (bval b) (SOl X cl (bltop b)) := by
  intro pins s σ H xs us Q I rv h
  obtain ⟨β, m, ws, w, m', r, q, e, k⟩ := h
  unfold bltop at e
  split at e
  ·
    split at e
    · split at e
      · rename_i hl
        cases e
        obtain ⟨v, rfl, qv⟩ := rws1 q
        cases qv
        exact call_len_str pins s σ H _ us Q I rv ⟨_, rfl, Nat.le_trans hl lim_line, k _ _ _ Ext.refl r (.int _)⟩
      · cases e
    · split at e
      · rename_i ys e1
        cases e
        obtain ⟨v, rfl, qv⟩ := rws1 q
        obtain ⟨a, vs, rfl, hs, t⟩ := r.getS qv e1
        exact call_len_seq pins s σ H _ us Q I rv ⟨_, _, rfl, hs, k _ _ _ Ext.refl r (by rw [← t.length]; exact .int _)⟩
      · cases e
  ·
    cases e
    obtain ⟨v, rfl, qv⟩ := rws1 q
    cases qv
    exact call_abs pins s σ H _ us Q I rv ⟨_, rfl, k _ _ _ Ext.refl r (.int _)⟩
  · cases e
    obtain ⟨v, v', rfl, qv, qv'⟩ := rws2 q
    cases qv; cases qv'
    exact call_max2 hc pins s σ H _ us Q I rv ⟨_, _, rfl, k _ _ _ Ext.refl r (.int _)⟩
  · cases e
    obtain ⟨v, v', rfl, qv, qv'⟩ := rws2 q
    cases qv; cases qv'
    exact call_min2 hc pins s σ H _ us Q I rv ⟨_, _, rfl, k _ _ _ Ext.refl r (.int _)⟩
  · split at e
    · rename_i hd
      cases e
      obtain ⟨v, v', rfl, qv, qv'⟩ := rws2 q
      cases qv; cases qv'
      refine call_divmod pins s σ H _ us Q I rv ⟨_, _, rfl, hd, fun p hp => ?_⟩
      obtain ⟨x2, r2⟩ := r.newT hp [.int _, .int _]
      exact k _ _ _ x2 r2 (.tup (.of upd_same) (.cons (.int _) (.cons (.int _) .nil)))
    · cases e
  ·
    split at e
    · rename_i ys e1
      split at e
      · rename_i bs e2
        cases e
        obtain ⟨v, rfl, qv⟩ := rws1 q
        obtain ⟨a, vs, rfl, hs, t⟩ := r.getL qv e1
        have z := t.bools e2
        subst z
        exact call_all hh pins s σ H _ us Q I rv ⟨_, _, rfl, hs, k _ _ _ Ext.refl r (.bl _)⟩
      · cases e
    · cases e
  · split at e
    · rename_i ys e1
      split at e
      · rename_i bs e2
        cases e
        obtain ⟨v, rfl, qv⟩ := rws1 q
        obtain ⟨a, vs, rfl, hs, t⟩ := r.getL qv e1
        have z := t.bools e2
        subst z
        exact call_any hh pins s σ H _ us Q I rv ⟨_, _, rfl, hs, k _ _ _ Ext.refl r (.bl _)⟩
      · cases e
    · cases e
  ·
    split at e
    · rename_i ys e1
      cases e
      obtain ⟨v, rfl, qv⟩ := rws1 q
      obtain ⟨a, vs, rfl, hs, t⟩ := r.getS qv e1
      refine call_list_of pins s σ H _ us Q I rv ⟨_, _, rfl, hs, fun p hp => ?_⟩
      obtain ⟨x2, r2⟩ := r.newL hp t
      exact k _ _ _ x2 r2 (.ref (r.last p))
    · cases e
  · split at e
    · rename_i ys e1
      cases e
      obtain ⟨v, rfl, qv⟩ := rws1 q
      obtain ⟨a, vs, rfl, hs, t⟩ := r.getS qv e1
      refine call_tuple_of pins s σ H _ us Q I rv ⟨_, vs, rfl, ?_⟩
      rcases hs with hs | hs
      · refine .inl ⟨hs, fun p hp => ?_⟩
        obtain ⟨x2, r2⟩ := r.newT hp vs
        exact k _ _ _ x2 r2 (.tup (.of upd_same) (t.mono r x2))
      · exact .inr ⟨hs, k _ _ _ Ext.refl r (.tup hs t)⟩
    · cases e
  · cases e
    obtain ⟨v, rfl, qv⟩ := rws1 q
    cases qv
    exact call_int1 pins s σ H _ us Q I rv (.inl ⟨_, rfl, k _ _ _ Ext.refl r (.int _)⟩)
  · cases e
    obtain ⟨v, rfl, qv⟩ := rws1 q
    cases qv
    exact call_int1 pins s σ H _ us Q I rv (.inr ⟨_, rfl, k _ _ _ Ext.refl r (.int _)⟩)
  ·
    split at e
    · rename_i ys e1
      split at e
      · rename_i tss e2
        split at e
        · rename_i zs e3
          cases e
          obtain ⟨v, rfl, qv⟩ := rws1 q
          obtain ⟨a, vs, rfl, hs, t⟩ := r.getL qv e1
          unfold sortT at e3
          split at e3
          · rename_i hz
            split at e3
            · rename_i pm e4
              split at e3
              · rename_i hpm
                cases e3
                have hl := t.length
                refine call_sortedT pins s σ H _ us Q I rv ⟨a, vs, tss, (tss.headD []).length - 1, pm, rfl, hs, t.tups e2, fun x hx => ?_, by omega, by omega, by rw [← hl]; exact e4, hpm, fun p hp => ?_⟩
                · have := List.all_eq_true.mp hz.2.1 x hx
                  have := beq_iff_eq.mp this
                  omega
                · obtain ⟨x2, r2⟩ := r.newL hp (t.pick pm.toList)
                  exact k _ _ _ x2 r2 (.ref (r.last p))
              · cases e3
            · cases e3
          · cases e3
        · cases e
      · cases e
    · cases e
  · cases e
theorem s_bltF {x : Str} {b : B} {id : String} {a : Expr} {es : List Expr} {p : Pos} {ds : Es} (hc : X.calm = true) (hh : X.A.handled = none) (hb : bval b = .builtin id) (hg : Gl X x) (hm : X.mg x = none) (hv : bootBuiltins x = some (.builtin id)) (ha : PA X (a :: es) (SA X cl (evEs C ds)))
    (hn : x ≠ "__name__") (hdb : (x == ("__debug__" : Str)) = false) (he : starEach (a :: es) X.env = (false, eval a X.env) :: starEach es X.env) (hpl : (backTo pos (starEach es X.env)).any (·.1) = false) : PE X (.Call (.Name x p) (a :: es) [] pos) (SE X cl (evE C (.blt b ds))) := by
  refine PE.imp (pe_callB (hb ▸ so_blt (cl := cl) hc hh b) hg hm hv ha hn hdb he hpl) ?_
  rintro σ H Q ⟨β, ρ, m, w, m', r, l, e, k⟩
  simp only [evE] at e
  obtain ⟨x, m1, e1, e⟩ := R.bind_ok e
  exact ⟨β, ρ, m, x, m1, r, l, e1, fun β1 H1 v1 x1 r1 q1 => ⟨β1, m1, x, w, m', r1, q1, e, fun β2 H2 v2 x2 r2 q2 => k _ _ _ (x1.trans r1 x2) r2 q2⟩⟩
theorem s_bltT {x : Str} {b : B} {id : String} {a : Expr} {es : List Expr} {p : Pos} {ds : Es} (hc : X.calm = true) (hh : X.A.handled = none) (hb : bval b = .type id) (hg : Gl X x) (hm : X.mg x = none) (hv : bootBuiltins x = some (.type id)) (ha : PA X (a :: es) (SA X cl (evEs C ds)))
    (hn : x ≠ "__name__") (hdb : (x == ("__debug__" : Str)) = false) (he : starEach (a :: es) X.env = (false, eval a X.env) :: starEach es X.env) (hpl : (backTo pos (starEach es X.env)).any (·.1) = false) : PE X (.Call (.Name x p) (a :: es) [] pos) (SE X cl (evE C (.blt b ds))) := by
  refine PE.imp (pe_callTy (hb ▸ so_blt (cl := cl) hc hh b) hg hm hv ha hn hdb he hpl) ?_
  rintro σ H Q ⟨β, ρ, m, w, m', r, l, e, k⟩
  simp only [evE] at e
  obtain ⟨x, m1, e1, e⟩ := R.bind_ok e
  exact ⟨β, ρ, m, x, m1, r, l, e1, fun β1 H1 v1 x1 r1 q1 => ⟨β1, m1, x, w, m', r1, q1, e, fun β2 H2 v2 x2 r2 q2 => k _ _ _ (x1.trans r1 x2) r2 q2⟩⟩
theorem Rel.newU {K : PySem.W.Frag} {cl : Nat → Addr} {β : List Addr} {H : Hp} {m : Mem} (r : Rel K cl β m H) {p : Addr} (hp : H p = none) (o : HO) : Ext β H β (upd H p o) ∧ Rel K cl β m (upd H p o) := by
  have x : Ext β H β (upd H p o) := ⟨⟨[], by simp, by simp⟩, fun h _ _ => by rw [upd_ne (ne_of_none h hp)]; exact h⟩
  refine ⟨x, r.len, r.nd, fun h1 h2 => ?_⟩
  have q := r.obj h1 h2
  obtain ⟨u, e, _⟩ := q.ex
  exact q.mono r x (upd_ne (ne_of_none e hp))
theorem rws_upTo {K : PySem.W.Frag} {β : List Addr} {H : Hp} (n : Nat) : RWs K β H ((List.range n).map fun i => W.int (i : Nat)) (L2.upTo n) := by
  unfold L2.upTo
  generalize List.range n = l
  induction l with
  | nil => exact .nil
  | cons a l ih => exact .cons (.int _) ih
theorem s_lrng {a : Expr} {d : E} {p p2 pos2 : Pos} (hh : X.A.handled = none) (hg : Gl X "list") (hm : X.mg "list" = none) (hg2 : Gl X "range") (hm2 : X.mg "range" = none) (ha : PE X a (SE X cl (evE C d))) (he : starEach [a] X.env = [(false, eval a X.env)]) :
    PE X (.Call (.Name "list" p) [.Call (.Name "range" p2) [a] [] pos2] [] pos) (SE X cl (evE C (.lrng d))) := by
  refine PE.imp (pe_callTy (call_list_rng hh) hg hm (by decide +kernel) (pa_cons (pe_callTy call_rng hg2 hm2 (by decide +kernel) (pa_cons ha pa_nil he) (by decide +kernel) (by decide +kernel) he rfl) pa_nil) (by decide +kernel) (by decide +kernel) rfl rfl) ?_
  rintro σ H Q ⟨β, ρ, m, w, m', r, l, e, k⟩
  simp only [evE] at e
  obtain ⟨x, m1, e1, e⟩ := R.bind_ok e
  split at e
  · rename_i j
    split at e
    · rename_i hj
      cases e
      refine ⟨β, ρ, m, .int j, _, r, l, e1, fun β1 H1 v1 x1 r1 q1 => ?_⟩
      cases q1
      refine ⟨j, rfl, fun p hp => ?_⟩
      obtain ⟨x2, r2⟩ := r1.newU hp (.rng 0 j)
      refine ⟨p, j.toNat, rfl, by rw [upd_same, Int.toNat_of_nonneg hj.1], by omega, fun q hq => ?_⟩
      obtain ⟨x3, r3⟩ := r2.newL hq (rws_upTo j.toNat)
      exact k _ _ _ ((x1.trans r1 x2).trans r2 x3) r3 (.ref (r2.last q))
    · cases e
  · cases e
def tyNames : List String := ["int", "bool", "str", "list", "tuple", "dict", "NoneType"]
theorem kit1 (K : PySem.W.Frag) : ∀ t ∈ tyNames, ∀ c ∈ tyNames, PySem.W.kitOne K (.type t) (.type c) = some (t == c || (t == "bool" && c == "int")) := by
  intro t ht c hc
  simp only [tyNames, List.mem_cons, List.not_mem_nil, or_false] at ht hc
  rcases ht with rfl | rfl | rfl | rfl | rfl | rfl | rfl <;> rcases hc with rfl | rfl | rfl | rfl | rfl | rfl | rfl <;> with_unfolding_all rfl
theorem isTup_ok {pins : List (Addr × Obj)} {s : Shared} {σ : L2.St} {H : Hp} {a : Addr} {vs : List V} {c : Value} {b : Bool} {A : Around} {Q : Value → Shared → Prop} {E : Value → Shared → Prop} (I : Inv X pins σ H s) (h : SqT X.K H a vs) (e : PySem.W.kitOne X.K (.type "tuple") c = some b) (q : ∀ tk, Q (.bool b) { s with toks := tk }) :
    wpAny (model X.prog X.w) A (call (.builtin "isinstance") [.ref a, c]) Q E s := by
  obtain ⟨its, rv, ⟨o, e1, e2, n, e3⟩, hz⟩ := I.tuple h
  exact PySem.W.kia_one PySem.W.kitx_tuple I.kIn ⟨_, e1, e2⟩ e (fun z => nomatch z) q
theorem isLst_ok {pins : List (Addr × Obj)} {s : Shared} {σ : L2.St} {H : Hp} {a : Addr} {vs : List V} {c : Value} {b : Bool} {A : Around} {Q : Value → Shared → Prop} {E : Value → Shared → Prop} (I : Inv X pins σ H s) (h : SqL X.K H a vs) (e : PySem.W.kitOne X.K (.type "list") c = some b) (q : ∀ tk, Q (.bool b) { s with toks := tk }) :
    wpAny (model X.prog X.w) A (call (.builtin "isinstance") [.ref a, c]) Q E s := by
  obtain ⟨its, rv, ⟨o, n, e1, e2, e3, e4⟩, hz⟩ := I.list h
  exact PySem.W.kia_one PySem.W.kitx_list I.kIn ⟨_, e1, e2⟩ e (fun z => nomatch z) q
theorem so_isI {t : String} (ht : t ∈ tyNames) : CallR X (.builtin "isinstance") (fun xs H Q => ∃ x, xs = [x, .ty t] ∧ ∃ β m w b, Rel X.K cl β m H ∧ RW X.K β H w x ∧ isTy m t w = some b ∧ Q (.bl b) H) := by
  intro pins s σ H xs us Q I rv h
  obtain ⟨x, rfl, β, m, w, b, r, q, e, k⟩ := h
  obtain ⟨u, u', rfl, r1, r2⟩ := vals2 rv
  cases r2
  have fin : ∀ tk, EP X pins σ Q (.bool b) { s with toks := tk } := fun tk => ⟨.bl b, H, I.tok tk, rfl, k⟩
  cases q with
  | non => simp only [isTy] at e; exact isinst_ok I r1 .non (by rw [kit1 _ _ (by decide) _ ht, ← e]; simp only [tyNames, List.mem_cons, List.not_mem_nil, or_false] at ht; rcases ht with rfl | rfl | rfl | rfl | rfl | rfl | rfl <;> rfl) fin
  | bl c => simp only [isTy] at e; exact isinst_ok I r1 (.bl c) (by rw [kit1 _ _ (by decide) _ ht, ← e]; simp only [tyNames, List.mem_cons, List.not_mem_nil, or_false] at ht; rcases ht with rfl | rfl | rfl | rfl | rfl | rfl | rfl <;> rfl) fin
  | int i => simp only [isTy] at e; exact isinst_ok I r1 (.int i) (by rw [kit1 _ _ (by decide) _ ht, ← e]; simp only [tyNames, List.mem_cons, List.not_mem_nil, or_false] at ht; rcases ht with rfl | rfl | rfl | rfl | rfl | rfl | rfl <;> rfl) fin
  | str y => simp only [isTy] at e; exact isinst_ok I r1 (.str y) (by rw [kit1 _ _ (by decide) _ ht, ← e]; simp only [tyNames, List.mem_cons, List.not_mem_nil, or_false] at ht; rcases ht with rfl | rfl | rfl | rfl | rfl | rfl | rfl <;> rfl) fin
  | tup h tt =>
    simp only [isTy] at e
    cases r1
    exact isTup_ok I h (by rw [kit1 _ _ (by decide) _ ht, ← e]; simp only [tyNames, List.mem_cons, List.not_mem_nil, or_false] at ht; rcases ht with rfl | rfl | rfl | rfl | rfl | rfl | rfl <;> rfl) fin
  | fz h tt =>
    simp only [isTy] at e
    cases r1
    exact isLst_ok I h.l (by rw [kit1 _ _ (by decide) _ ht, ← e]; simp only [tyNames, List.mem_cons, List.not_mem_nil, or_false] at ht; rcases ht with rfl | rfl | rfl | rfl | rfl | rfl | rfl <;> rfl) fin
  | ref h =>
    simp only [isTy] at e
    cases r1
    rename_i n0 a0
    have go : ∀ {vs : List V}, SqL X.K H a0 vs → some (t == "list") = some b → wpAny (model X.prog X.w) X.A (call (.builtin "isinstance") [.ref a0, .type t]) (EP X pins σ Q) X.xe s := fun {vs} hs e => isLst_ok (A := X.A) (E := X.xe) I hs (c := .type t) (b := b) (by rw [kit1 _ _ (by decide) _ ht, ← e]; simp only [tyNames, List.mem_cons, List.not_mem_nil, or_false] at ht; rcases ht with rfl | rfl | rfl | rfl | rfl | rfl | rfl <;> rfl) fin
    split at e
    · rename_i xs e1
      obtain ⟨vs, z, _⟩ := r.obj e1 h
      exact go (.inl (.inl z)) e
    · cases e
theorem s_isI {a : Expr} {d : E} {t : Str} {tn : String} {p p2 : Pos} (ht : tn ∈ tyNames) (hg : Gl X "isinstance") (hm : X.mg "isinstance" = none) (hg2 : Gl X t) (hm2 : X.mg t = none) (hb2 : bootBuiltins t = some (.type tn)) (ha : PE X a (SE X cl (evE C d)))
    (hn : t ≠ "__name__") (hdb : (t == ("__debug__" : Str)) = false) (he : starEach [a, .Name t p2] X.env = (false, eval a X.env) :: starEach [.Name t p2] X.env) : PE X (.Call (.Name "isinstance" p) [a, .Name t p2] [] pos) (SE X cl (evE C (.isI d tn))) := by
  refine PE.imp (pe_callB (so_isI (cl := cl) ht) hg hm (by decide +kernel) (pa_cons ha (pa_cons (pe_bltn (v := .ty tn) (u := .type tn) hg2 hm2 hb2 rfl hn hdb) pa_nil) he) (by decide +kernel) (by decide +kernel) he rfl) ?_
  rintro σ H Q ⟨β, ρ, m, w, m', r, l, e, k⟩
  simp only [evE] at e
  obtain ⟨x, m1, e1, e⟩ := R.bind_ok e
  split at e
  · rename_i b e2
    cases e
    exact ⟨β, ρ, m, x, _, r, l, e1, fun β1 H1 v1 x1 r1 q1 => ⟨v1, rfl, β1, _, x, b, r1, q1, e2, k _ _ _ x1 r1 (.bl b)⟩⟩
  · cases e
def SM (X : L2.Cx) (cl : Nat → Addr) (name : String) : V → List V → Hp → VK → Prop := fun x xs H Q => ∃ β m wx ws w m', Rel X.K cl β m H ∧ RW X.K β H wx x ∧ RWs X.K β H ws xs ∧ methop wx name ws m = .ok w m' ∧ ∀ β' H' v, Ext β H β' H' → Rel X.K cl β' m' H' → RW X.K β' H' w v → Q v H'
theorem meth_lst {o : W} {name : String} {ws : List W} {m m' : Mem} {w : W} (e : methop o name ws m = .ok w m') : ∃ n ys, o = .ref n ∧ m[n]? = some (.lst ys) := by
  unfold methop at e
  split at e
  · split at e
    · rename_i n _ ys e1
      exact ⟨_, _, rfl, e1⟩
    · cases e
  · cases e
theorem sm_append : MtR X "list.append" (SM X cl "append") := by
  intro pins s σ H x xs v us Q I rx rv h
  obtain ⟨β, m, wx, ws, w, m', r, qx, qs, e, k⟩ := h
  obtain ⟨n, ys, rfl, e0⟩ := meth_lst e
  simp only [methop, e0, if_pos] at e
  split at e
  · split at e
    · rename_i hl
      cases e
      obtain ⟨a, vs, rfl, hb, ha, t⟩ := r.lst qx e0
      obtain ⟨v1, rfl, q1⟩ := rws1 qs
      obtain ⟨x2, r2⟩ := r.setL e0 hb (t.append (.cons q1 .nil))
      exact mt_append pins s σ H _ _ v us Q I rx rv ⟨_, _, _, rfl, rfl, ha, Nat.lt_of_lt_of_le (by rw [← t.length]; exact hl) lim_line, k _ _ _ x2 r2 .non⟩
    · cases e
  · cases e
theorem sm_clear : MtR X "list.clear" (SM X cl "clear") := by
  intro pins s σ H x xs v us Q I rx rv h
  obtain ⟨β, m, wx, ws, w, m', r, qx, qs, e, k⟩ := h
  obtain ⟨n, ys, rfl, e0⟩ := meth_lst e
  simp only [methop, e0, if_pos, reduceCtorEq, String.reduceEq, if_false] at e
  split at e
  · cases e
    obtain ⟨a, vs, rfl, hb, ha, t⟩ := r.lst qx e0
    cases qs
    obtain ⟨x2, r2⟩ := r.setL e0 hb .nil
    exact mt_clear pins s σ H _ _ v us Q I rx rv ⟨_, _, rfl, rfl, ha, k _ _ _ x2 r2 .non⟩
  · cases e
theorem sm_reverse : MtR X "list.reverse" (SM X cl "reverse") := by
  intro pins s σ H x xs v us Q I rx rv h
  obtain ⟨β, m, wx, ws, w, m', r, qx, qs, e, k⟩ := h
  obtain ⟨n, ys, rfl, e0⟩ := meth_lst e
  simp only [methop, e0, if_pos, String.reduceEq, if_false] at e
  split at e
  · cases e
    obtain ⟨a, vs, rfl, hb, ha, t⟩ := r.lst qx e0
    cases qs
    obtain ⟨x2, r2⟩ := r.setL e0 hb t.reverse
    exact mt_reverse pins s σ H _ _ v us Q I rx rv ⟨_, _, rfl, rfl, ha, k _ _ _ x2 r2 .non⟩
  · cases e
theorem sm_pop : MtR X "list.pop" (SM X cl "pop") := by
  intro pins s σ H x xs v us Q I rx rv h
  obtain ⟨β, m, wx, ws, w, m', r, qx, qs, e, k⟩ := h
  obtain ⟨n, ys, rfl, e0⟩ := meth_lst e
  simp only [methop, e0, if_pos, String.reduceEq, if_false] at e
  obtain ⟨a, vs, rfl, hb, ha, t⟩ := r.lst qx e0
  split at e
  · split at e
    · rename_i y e1
      cases e
      cases qs
      obtain ⟨z, e2, qz⟩ := t.get e1
      obtain ⟨x2, r2⟩ := r.setL e0 hb t.dropLast
      exact mt_pop pins s σ H _ _ v us Q I rx rv ⟨_, _, _, rfl, rfl, ha, by rw [← t.length]; exact e2, k _ _ _ x2 r2 (qz.mono r x2)⟩
    · cases e
  · split at e
    · rename_i hi
      split at e
      · rename_i kk e3
        split at e
        · rename_i y e1
          cases e
          obtain ⟨v1, rfl, q1⟩ := rws1 qs
          cases q1
          obtain ⟨z, e2, qz⟩ := t.get e1
          obtain ⟨x2, r2⟩ := r.setL e0 hb (t.eraseIdx kk)
          exact mt_popAt pins s σ H _ _ v us Q I rx rv ⟨_, _, _, kk, _, rfl, rfl, ha, hi.1, hi.2, by rw [← t.length]; exact e3, e2, k _ _ _ x2 r2 (qz.mono r x2)⟩
        · cases e
      · cases e
    · cases e
  · cases e
theorem sm_extend : MtR X "list.extend" (SM X cl "extend") := by
  intro pins s σ H x xs v us Q I rx rv h
  obtain ⟨β, m, wx, ws, w, m', r, qx, qs, e, k⟩ := h
  obtain ⟨n, ys, rfl, e0⟩ := meth_lst e
  simp only [methop, e0, if_pos, String.reduceEq, if_false] at e
  obtain ⟨a, vs, rfl, hb, ha, t⟩ := r.lst qx e0
  split at e
  · split at e
    · rename_i zs e1
      split at e
      · rename_i hl
        cases e
        obtain ⟨v1, rfl, q1⟩ := rws1 qs
        obtain ⟨a', vs', rfl, hb', ha', t'⟩ := r.lst q1 e1
        obtain ⟨x2, r2⟩ := r.setL e0 hb (t.append t')
        exact mt_extend pins s σ H _ _ v us Q I rx rv ⟨_, _, _, _, rfl, rfl, ha, ha', by rw [← t.length, ← t'.length]; exact Nat.le_trans hl lim_line, k _ _ _ x2 r2 .non⟩
      · cases e
    · cases e
  · cases e
theorem sm_insert : MtR X "list.insert" (SM X cl "insert") := by
  intro pins s σ H x xs v us Q I rx rv h
  obtain ⟨β, m, wx, ws, w, m', r, qx, qs, e, k⟩ := h
  obtain ⟨n, ys, rfl, e0⟩ := meth_lst e
  simp only [methop, e0, if_pos, String.reduceEq, if_false] at e
  obtain ⟨a, vs, rfl, hb, ha, t⟩ := r.lst qx e0
  split at e
  · split at e
    · rename_i hl
      cases e
      obtain ⟨v1, v2, rfl, q1, q2⟩ := rws2 qs
      cases q1
      obtain ⟨x2, r2⟩ := r.setL e0 hb (((t.take _).append (.cons q2 .nil)).append (t.drop _))
      exact mt_insert pins s σ H _ _ v us Q I rx rv ⟨_, _, _, _, rfl, rfl, ha, hl.1, by rw [← t.length]; exact hl.2.1, Nat.lt_of_lt_of_le (by rw [← t.length]; exact hl.2.2) lim_line, k _ _ _ x2 r2 .non⟩
    · cases e
  · cases e
theorem kd_lst {K : PySem.W.Frag} {β : List Addr} {m : Mem} {H : Hp} {w : W} {v : V} (r : Rel K cl β m H) (q : RW K β H w v) (e : kdOf m w = .lst) : tyV K "list" v H := by
  cases q with
  | ref h =>
    simp only [kdOf] at e
    split at e
    · rename_i ws e1
      obtain ⟨vs, z, _⟩ := r.obj e1 h
      exact .inl ⟨rfl, _, .inl (.inl z)⟩
    · cases e
  | _ => simp [kdOf] at e
section
variable {o : Expr} {d : E} {name : Str} {nm id : String} {apos : Pos}
theorem s_meth0 (pa : PlainAttrs "list") (slot : Slot "list" name id) (hty : typeOf (.builtin id) = pure (.type "method_descriptor")) (hm : MtR X id (SM X cl nm)) (ho : PE X o (SE X cl (evE C d)))
    (hbase : attributeBase o name X.env (eval o X.env) = eval o X.env) (hline : (apos.endLine == pos.line) = true) : PE X (.Call (.Attribute o name apos) [] [] pos) (SE X cl (evE C (.meth d nm .nil))) := by
  refine PE.imp (pe_bm0 pa slot hty hm ho hbase hline) ?_
  rintro σ H Q ⟨β, ρ, m, w, m', r, l, e, k⟩
  simp only [evE] at e
  obtain ⟨x, m1, e1, e⟩ := R.bind_ok e
  refine ⟨β, ρ, m, x, m1, r, l, e1, fun β1 H1 v1 x1 r1 q1 => ?_⟩
  split at e
  · rename_i hk
    simp only [evEs, R.bind] at e
    exact ⟨kd_lst r1 q1 hk, β1, m1, x, [], w, m', r1, q1, .nil, e, fun β2 H2 v2 x2 r2 q2 => k _ _ _ (x1.trans r1 x2) r2 q2⟩
  · cases e
theorem s_meth {a : Expr} {es : List Expr} {ds : Es} (pa : PlainAttrs "list") (slot : Slot "list" name id) (hty : typeOf (.builtin id) = pure (.type "method_descriptor")) (hm : MtR X id (SM X cl nm)) (ho : PE X o (SE X cl (evE C d))) (ha : PA X (a :: es) (SA X cl (evEs C ds)))
    (hbase : attributeBase o name X.env (eval o X.env) = eval o X.env)
    (hfew : ((backTo pos (starEach (a :: es) X.env)).all (fun x => !x.1) && (backToKw pos (keywordEach [] X.env)).all (fun x => x.1.isSome)
      && decide ((a :: es).length + ([] : List Keyword).length + (if ([] : List Keyword).isEmpty then 0 else 1) < 30)) = true)
    (hline : (apos.endLine == pos.line) = true) (hs : starEach (a :: es) X.env = (false, eval a X.env) :: starEach es X.env) (hplain : (backTo pos (starEach es X.env)).any (·.1) = false) : PE X (.Call (.Attribute o name apos) (a :: es) [] pos) (SE X cl (evE C (.meth d nm ds))) := by
  refine PE.imp (pe_bm pa slot hty hm ho ha hbase hfew hline hs hplain) ?_
  rintro σ H Q ⟨β, ρ, m, w, m', r, l, e, k⟩
  simp only [evE] at e
  obtain ⟨x, m1, e1, e⟩ := R.bind_ok e
  refine ⟨β, ρ, m, x, m1, r, l, e1, fun β1 H1 v1 x1 r1 q1 => ?_⟩
  split at e
  · rename_i hk
    obtain ⟨ws, m2, e2, e⟩ := R.bind_ok e
    exact ⟨kd_lst r1 q1 hk, β1, ρ, m1, ws, m2, r1, l.mono r x1, e2, fun β2 H2 v2 x2 r2 q2 =>
      ⟨β2, m2, x, ws, w, m', r2, q1.mono r1 x2, q2, e, fun β3 H3 v3 x3 r3 q3 => k _ _ _ ((x1.trans r1 x2).trans r2 x3) r3 q3⟩⟩
  · cases e
end
def spD (K : PySem.W.Frag) (cl : Nat → Addr) (np : Nat) (f : List W → Mem → R W) : Sp := fun vs H Q _ => vs.length = np ∧ ∃ β m ws w m', Rel K cl β m H ∧ RWs K β H ws vs ∧ f ws m = .ok w m' ∧ ∀ β' H' v, Ext β H β' H' → Rel K cl β' m' H' → RW K β' H' w v → Q v H'
theorem s_call {k f : Nat} {fa : Addr} {fd : FuncData} {ps : List Str} {x : Str} {p : Pos} {a : Expr} {es : List Expr} {ds : Es} (F : FnOk X.prog X.w X.K X.mg X.base CX0 k fa fd ps (spD X.K cl ps.length (C.call f))) (hr : Room k X.A) (hg : Gl X x) (hm : X.mg x = some (.ref fa)) (hk : PySem.W.keepIn X.K (.ref fa) = true) (hb : Binds X.K fd ps [])
    (ha : PA X (a :: es) (SA X cl (evEs C ds))) (hl : ∀ ρ m ws m', evEs C ds ρ m = .ok ws m' → ws.length = ps.length) (hdb : (x == ("__debug__" : Str)) = false) (he : starEach (a :: es) X.env = (false, eval a X.env) :: starEach es X.env) (hpl : (backTo pos (starEach es X.env)).any (·.1) = false) :
    PE X (.Call (.Name x p) (a :: es) [] pos) (SE X cl (evE C (.call f ds))) := by
  refine PE.imp (pe_call F hr hg hm hk hb .nil pass0 ha hdb he hpl) ?_
  rintro σ H Q ⟨β, ρ, m, w, m', r, l, e, k⟩
  simp only [evE] at e
  obtain ⟨x, m1, e1, e⟩ := R.bind_ok e
  refine ⟨β, ρ, m, x, m1, r, l, e1, fun β1 H1 v1 x1 r1 q1 => ⟨?_, β1, m1, x, w, m', r1, by rw [List.append_nil]; exact q1, e, fun β2 H2 v2 x2 r2 q2 => k _ _ _ (x1.trans r1 x2) r2 q2⟩⟩
  rw [List.append_nil, ← q1.length]
  exact hl _ _ _ _ e1
end
end D
end
section
set_option Elab.async false
set_option linter.all false
set_option maxRecDepth 100000
set_option autoImplicit false
namespace D
open PySem PySem.Spec PyProof.Rows L2
section
variable (X : L2.Cx) (cl : Nat → Addr)
def IS (J : It) (src : Src) (β0 : List Addr) (H0 : Hp) : Prop := ∀ (β : List Addr) (m : Mem) (H : Hp) (i : Nat), (∃ γ, β = β0 ++ γ) → (∀ {a : Addr} {vs : List V}, SqT X.K H0 a vs → SqT X.K H a vs) → (∀ {a : Addr} {vs : List V}, SqF X.K H0 a vs → SqF X.K H a vs) → Rel X.K cl β m H →
  (∀ w, src.get m i = .it w → J.go i H ∧ ∀ x H', J.yld i H x H' → Ext β H β H' ∧ Rel X.K cl β m H' ∧ RW X.K β H' w x) ∧ (src.get m i = .fin → J.stop i H)
def SI (ev : Loc → Mem → R Src) : TI := fun σ H Rr => ∃ β ρ m src m', Rel X.K cl β m H ∧ RL X.K β H ρ σ ∧ ev ρ m = .ok src m' ∧ ∀ β' H' J, Ext β H β' H' → Rel X.K cl β' m' H' → IS X cl J src β' H' → Rr J H'
def SG (ev : W → Loc → Mem → R Loc) : TG := fun v σ H Q => ∃ β ρ m w ρ' m', Rel X.K cl β m H ∧ RL X.K β H ρ σ ∧ RW X.K β H w v ∧ ev w ρ m = .ok ρ' m' ∧ ∀ β' H' σ', Ext β H β' H' → Rel X.K cl β' m' H' → RL X.K β' H' ρ' σ' → Q σ' H'
def SGs (ev : List W → Loc → Mem → R Loc) : TGs := fun vs σ H Q => ∃ β ρ m ws ρ' m', Rel X.K cl β m H ∧ RL X.K β H ρ σ ∧ RWs X.K β H ws vs ∧ ev ws ρ m = .ok ρ' m' ∧ ∀ β' H' σ', Ext β H β' H' → Rel X.K cl β' m' H' → RL X.K β' H' ρ' σ' → Q σ' H'
def EndF (D : Ends) (β : List Addr) (H : Hp) : F → Prop
  | .nx ρ => ∀ σ, RL X.K β H ρ σ → D.nx σ H
  | .rt w => ∀ v, RW X.K β H w v → D.rt v H
  | .bk ρ => ∀ σ, RL X.K β H ρ σ → D.bk σ H
  | .ct ρ => ∀ σ, RL X.K β H ρ σ → D.ct σ H
def SS (ev : Loc → Mem → R F) : TS := fun D σ H => ∃ β ρ m f m', Rel X.K cl β m H ∧ RL X.K β H ρ σ ∧ ev ρ m = .ok f m' ∧ ∀ β' H', Ext β H β' H' → Rel X.K cl β' m' H' → EndF X D β' H' f
end
theorem PI.imp {X : L2.Cx} {tg e : Expr} {t t' : TI} (h : PI X tg e t) (i : ∀ σ H R, t' σ H R → t σ H R) : PI X tg e t' := fun pins s σ H R I q => h pins s σ H R I (i σ H R q)
theorem PI.or {X : L2.Cx} {tg e : Expr} {t t' : TI} (h : PI X tg e t) (h' : PI X tg e t') : PI X tg e (fun σ H R => t σ H R ∨ t' σ H R) := fun pins s σ H R I q => q.elim (h pins s σ H R I) (h' pins s σ H R I)
theorem PG.imp {X : L2.Cx} {e : Expr} {t t' : TG} (h : PG X e t) (i : ∀ v σ H Q, t' v σ H Q → t v σ H Q) : PG X e t' := fun pins s σ H v u Q I r q => h pins s σ H v u Q I r (i v σ H Q q)
theorem PGs.imp {X : L2.Cx} {e : List Expr} {t t' : TGs} (h : PGs X e t) (i : ∀ v σ H Q, t' v σ H Q → t v σ H Q) : PGs X e t' := fun pins s σ H v u Q I r q => h pins s σ H v u Q I r (i v σ H Q q)
theorem PS.imp {X : L2.Cx} {e : Stmt} {t t' : TS} (h : PS X e t) (i : ∀ D σ H, t' D σ H → t D σ H) : PS X e t' := fun pins s σ H D I q => h pins s σ H D I (i D σ H q)
theorem PSs.imp {X : L2.Cx} {e : List Stmt} {t t' : TS} (h : PSs X e t) (i : ∀ D σ H, t' D σ H → t D σ H) : PSs X e t' := fun pins s σ H D I q => h pins s σ H D I (i D σ H q)
section
variable {X : L2.Cx} {cl : Nat → Addr} {C : D.Cx} {pos : Pos}
mutual
theorem RW.keep {K : PySem.W.Frag} {β β' : List Addr} {H H' : Hp} (hb : ∃ γ, β' = β ++ γ) (ht : ∀ {a : Addr} {vs : List V}, SqT K H a vs → SqT K H' a vs) (hf : ∀ {a : Addr} {vs : List V}, SqF K H a vs → SqF K H' a vs) : ∀ {w : W} {v : V}, RW K β H w v → RW K β' H' w v
  | _, _, .non => .non
  | _, _, .bl b => .bl b
  | _, _, .int i => .int i
  | _, _, .str s => .str s
  | _, _, .tup h t => .tup (ht h) (RWs.keep hb ht hf t)
  | _, _, .fz h t => .fz (hf h) (RWs.keep hb ht hf t)
  | _, _, .ref h => .ref (by obtain ⟨γ, rfl⟩ := hb; rw [List.getElem?_append_left (List.getElem?_eq_some_iff.mp h).1]; exact h)
theorem RWs.keep {K : PySem.W.Frag} {β β' : List Addr} {H H' : Hp} (hb : ∃ γ, β' = β ++ γ) (ht : ∀ {a : Addr} {vs : List V}, SqT K H a vs → SqT K H' a vs) (hf : ∀ {a : Addr} {vs : List V}, SqF K H a vs → SqF K H' a vs) : ∀ {w : List W} {v : List V}, RWs K β H w v → RWs K β' H' w v
  | _, _, .nil => .nil
  | _, _, .cons h t => .cons (RW.keep hb ht hf h) (RWs.keep hb ht hf t)
end
theorem is_lst {n : Nat} {a : Addr} {β0 : List Addr} {H0 : Hp} (hb : β0[n]? = some a) : IS X cl (Itl X.K a) (.lst n) β0 H0 := by
  intro β m H i hβ _ _ r
  obtain ⟨γ, rfl⟩ := hβ
  have hb' : (β0 ++ γ)[n]? = some a := by rw [List.getElem?_append_left (List.getElem?_eq_some_iff.mp hb).1]; exact hb
  refine ⟨fun w e => ?_, fun e => ?_⟩
  · simp only [Src.get] at e
    split at e
    · rename_i xs e1
      split at e
      · rename_i w' e2
        cases e
        obtain ⟨a', vs, z, hs, t⟩ := r.getL (.ref hb') e1
        cases z
        obtain ⟨v, e3, q⟩ := t.get e2
        refine ⟨⟨vs, v, hs, e3⟩, fun x H' y => ?_⟩
        obtain ⟨rfl, y⟩ := y
        have := y vs hs
        rw [e3] at this
        cases this
        exact ⟨Ext.refl, r, q⟩
      · cases e
    · cases e
  · simp only [Src.get] at e
    split at e
    · rename_i xs e1
      split at e
      · cases e
      · rename_i e2
        obtain ⟨a', vs, z, hs, t⟩ := r.getL (.ref hb') e1
        cases z
        refine ⟨vs, hs, ?_⟩
        rw [← t.length]
        exact List.getElem?_eq_none_iff.mp e2
    · cases e
theorem is_tup {a : Addr} {vs : List V} {ws : List W} {β0 : List Addr} {H0 : Hp} (hq0 : SqT X.K H0 a vs) (t0 : RWs X.K β0 H0 ws vs) : IS X cl (Itt X.K a) (.tup ws) β0 H0 := by
  intro β m H i hβ ht hf r
  have hq := ht hq0
  have t := t0.keep hβ ht hf
  refine ⟨fun w e => ?_, fun e => ?_⟩
  · simp only [Src.get] at e
    split at e
    · rename_i w' e2
      cases e
      obtain ⟨v, e3, q⟩ := t.get e2
      refine ⟨⟨vs, v, hq, e3⟩, fun x H' y => ?_⟩
      obtain ⟨rfl, y⟩ := y
      have := y vs hq
      rw [e3] at this
      cases this
      exact ⟨Ext.refl, r, q⟩
    · cases e
  · simp only [Src.get] at e
    split at e
    · cases e
    · rename_i e2
      exact ⟨vs, hq, by rw [← t.length]; exact List.getElem?_eq_none_iff.mp e2⟩
theorem is_fz {a : Addr} {vs : List V} {ws : List W} {β0 : List Addr} {H0 : Hp} (hq0 : SqF X.K H0 a vs) (t0 : RWs X.K β0 H0 ws vs) : IS X cl (Itl X.K a) (.tup ws) β0 H0 := by
  intro β m H i hβ ht hf r
  have hq := (hf hq0).l
  have t := t0.keep hβ ht hf
  refine ⟨fun w e => ?_, fun e => ?_⟩
  · simp only [Src.get] at e
    split at e
    · rename_i w' e2
      cases e
      obtain ⟨v, e3, q⟩ := t.get e2
      refine ⟨⟨vs, v, hq, e3⟩, fun x H' y => ?_⟩
      obtain ⟨rfl, y⟩ := y
      have := y vs hq
      rw [e3] at this
      cases this
      exact ⟨Ext.refl, r, q⟩
    · cases e
  · simp only [Src.get] at e
    split at e
    · cases e
    · rename_i e2
      exact ⟨vs, hq, by rw [← t.length]; exact List.getElem?_eq_none_iff.mp e2⟩
theorem is_enf {a : Addr} {vs : List V} {ws : List W} {β0 : List Addr} {H0 : Hp} (hq0 : SqF X.K H0 a vs) (t0 : RWs X.K β0 H0 ws vs) : IS X cl (Iel X.K a) (.enm (.tup ws)) β0 H0 := by
  intro β m H i hβ ht hf r
  obtain ⟨k1, k2⟩ := is_fz (X := X) (cl := cl) hq0 t0 β m H i hβ ht hf r
  refine ⟨fun w e => ?_, fun e => ?_⟩
  · simp only [Src.get] at e k1
    split at e
    · rename_i w' e1
      cases e
      obtain ⟨⟨xs, x, hs, hx⟩, g⟩ := k1 w' e1
      refine ⟨⟨xs, x, hs, hx⟩, fun y H' z => ?_⟩
      obtain ⟨p, v, hp, rfl, rfl, hv⟩ := z
      obtain ⟨_, _, q⟩ := g v H ⟨rfl, hv⟩
      obtain ⟨x2, r2⟩ := r.newT hp [.int i, v]
      exact ⟨x2, r2, .tup (.of upd_same) (.cons (.int _) (.cons (q.mono r x2) .nil))⟩
    · cases e
    · cases e
  · simp only [Src.get] at e k2
    split at e
    · cases e
    · rename_i e1
      exact k2 e1
    · cases e
theorem is_rng {lo : Int} {n : Nat} {β0 : List Addr} {H0 : Hp} : IS X cl (Itr lo n) (.rng lo n) β0 H0 := by
  intro β m H i hβ _ _ r
  refine ⟨fun w e => ?_, fun e => ?_⟩
  · simp only [Src.get] at e
    split at e
    · rename_i h
      cases e
      refine ⟨h, fun x H' y => ?_⟩
      obtain ⟨rfl, rfl⟩ := y
      exact ⟨Ext.refl, r, .int _⟩
    · cases e
  · simp only [Src.get] at e
    split at e
    · cases e
    · rename_i h
      exact Nat.le_of_not_lt h
theorem src_of {β : List Addr} {m : Mem} {H : Hp} {w : W} {v : V} {s : Src} (r : Rel X.K cl β m H) (q : RW X.K β H w v) (e : srcOf m w = some s) :
    ∃ a, v = .ref a ∧ ((∃ n vs, s = .lst n ∧ w = .ref n ∧ β[n]? = some a ∧ SqL X.K H a vs) ∨ (∃ ws vs, s = .tup ws ∧ w = .fz ws ∧ SqF X.K H a vs ∧ RWs X.K β H ws vs) ∨ ∃ ws vs, s = .tup ws ∧ w = .tup ws ∧ SqT X.K H a vs ∧ RWs X.K β H ws vs) := by
  cases q with
  | tup h t => cases e; exact ⟨_, rfl, .inr (.inr ⟨_, _, rfl, rfl, h, t⟩)⟩
  | fz h t => cases e; exact ⟨_, rfl, .inr (.inl ⟨_, _, rfl, rfl, h, t⟩)⟩
  | ref h =>
    simp only [srcOf] at e
    split at e
    · rename_i xs e1
      cases e
      obtain ⟨a, vs, z, hs, t⟩ := r.getL (.ref h) e1
      cases z
      exact ⟨_, rfl, .inl ⟨_, _, rfl, rfl, h, hs⟩⟩
    · cases e
  | _ => cases e
theorem src_tup {β : List Addr} {m : Mem} {H : Hp} {ws : List W} {v : V} {s : Src} (r : Rel X.K cl β m H) (q : RW X.K β H (.tup ws) v) (e : srcOf m (.tup ws) = some s) : ∃ a vs, v = .ref a ∧ s = .tup ws ∧ SqT X.K H a vs ∧ RWs X.K β H ws vs := by
  cases q with
  | tup h t => cases e; exact ⟨_, _, rfl, rfl, h, t⟩
theorem src_fz {β : List Addr} {m : Mem} {H : Hp} {ws : List W} {v : V} {s : Src} (r : Rel X.K cl β m H) (q : RW X.K β H (.fz ws) v) (e : srcOf m (.fz ws) = some s) : ∃ a vs, v = .ref a ∧ s = .tup ws ∧ SqF X.K H a vs ∧ RWs X.K β H ws vs := by
  cases q with
  | fz h t => cases e; exact ⟨_, _, rfl, rfl, h, t⟩
theorem src_ref {β : List Addr} {m : Mem} {H : Hp} {n : Nat} {v : V} {s : Src} (r : Rel X.K cl β m H) (q : RW X.K β H (.ref n) v) (e : srcOf m (.ref n) = some s) : ∃ a vs, v = .ref a ∧ s = .lst n ∧ β[n]? = some a ∧ SqL X.K H a vs := by
  obtain ⟨a, rfl, ⟨n', vs, rfl, z, hb, hs⟩ | ⟨_, _, _, z, _⟩ | ⟨_, _, _, z, _⟩⟩ := src_of r q e
  · cases z; exact ⟨a, vs, rfl, rfl, hb, hs⟩
  · cases z
  · cases z
theorem i_val {tg a : Expr} {d : E} (ha : PE X a (SE X cl (evE C d))) (hd : ∀ ρ m, evI C d ρ m = (evE C d ρ m).bind fun x m => match srcOf m x with | some s => .ok s m | none => .no) : PI X tg a (SI X cl (evI C d)) := by
  refine PI.imp (PI.or (pi_list ha) (pi_tup ha)) ?_
  rintro σ H Rr ⟨β, ρ, m, src, m', r, l, e, k⟩
  rw [hd] at e
  obtain ⟨x, m1, e1, e⟩ := R.bind_ok e
  split at e
  · rename_i s e2
    cases e
    cases x with
    | tup xs =>
      refine .inr ⟨β, ρ, m, _, _, r, l, e1, fun β1 H1 v1 x1 r1 q1 => ?_⟩
      obtain ⟨a, vs, rfl, rfl, hs, t⟩ := src_tup r1 q1 e2
      exact ⟨a, rfl, ⟨vs, hs⟩, k _ _ _ x1 r1 (is_tup hs t)⟩
    | fz xs =>
      refine .inl ⟨β, ρ, m, _, _, r, l, e1, fun β1 H1 v1 x1 r1 q1 => ?_⟩
      obtain ⟨a, vs, rfl, rfl, hs, t⟩ := src_fz r1 q1 e2
      exact ⟨a, rfl, ⟨vs, hs.l⟩, k _ _ _ x1 r1 (is_fz hs t)⟩
    | ref n =>
      refine .inl ⟨β, ρ, m, _, _, r, l, e1, fun β1 H1 v1 x1 r1 q1 => ?_⟩
      obtain ⟨a, vs, rfl, rfl, hb, hs⟩ := src_ref r1 q1 e2
      exact ⟨a, rfl, ⟨vs, hs⟩, k _ _ _ x1 r1 (is_lst hb)⟩
    | _ => cases e2
  · cases e
theorem i_rng {tg a : Expr} {d : E} {p : Pos} (hg : Gl X "range") (hm : X.mg "range" = none) (ha : PE X a (SE X cl (evE C d))) (hs : starEach [a] X.env = [(false, eval a X.env)]) : PI X tg (.Call (.Name "range" p) [a] [] pos) (SI X cl (evI C (.rng d))) := by
  refine PI.imp (pi_range1 hg hm (pa_cons ha pa_nil hs) hs) ?_
  rintro σ H Rr ⟨β, ρ, m, src, m', r, l, e, k⟩
  simp only [evI] at e
  obtain ⟨x, m1, e1, e⟩ := R.bind_ok e
  refine ⟨β, ρ, m, x, m1, r, l, e1, fun β1 H1 v1 x1 r1 q1 => ?_⟩
  split at e
  · split at e
    · rename_i hj
      cases e; cases q1
      exact ⟨_, rfl, hj.1, hj.2, k _ _ _ x1 r1 is_rng⟩
    · cases e
  · cases e
theorem i_rng2 {tg a b : Expr} {d d' : E} {p : Pos} (hg : Gl X "range") (hm : X.mg "range" = none) (ha : PE X a (SE X cl (evE C d))) (hb : PE X b (SE X cl (evE C d'))) (hs : starEach [a, b] X.env = [(false, eval a X.env), (false, eval b X.env)]) (hs2 : starEach [b] X.env = [(false, eval b X.env)]) : PI X tg (.Call (.Name "range" p) [a, b] [] pos) (SI X cl (evI C (.rng2 d d'))) := by
  refine PI.imp (pi_range2 hg hm (pa_cons ha (pa_cons hb pa_nil hs2) (by rw [hs, hs2])) hs hs2) ?_
  rintro σ H Rr ⟨β, ρ, m, src, m', r, l, e, k⟩
  simp only [evI] at e
  obtain ⟨x, m1, e1, e⟩ := R.bind_ok e
  obtain ⟨y, m2, e2, e⟩ := R.bind_ok e
  refine ⟨β, ρ, m, x, m1, r, l, e1, fun β1 H1 v1 x1 r1 q1 => ?_⟩
  refine ⟨β1, ρ, m1, y, m2, r1, l.mono r x1, e2, fun β2 H2 v2 x2 r2 q2 => ?_⟩
  have q1 := q1.mono r1 x2
  split at e
  · split at e
    · rename_i hj
      cases e; cases q1; cases q2
      exact ⟨_, _, rfl, hj, k _ _ _ (x1.trans r1 x2) r2 is_rng⟩
    · cases e
  · cases e
theorem is_enl {n : Nat} {a : Addr} {β0 : List Addr} {H0 : Hp} (hb : β0[n]? = some a) : IS X cl (Iel X.K a) (.enm (.lst n)) β0 H0 := by
  intro β m H i hβ ht hf r
  obtain ⟨k1, k2⟩ := is_lst (X := X) (cl := cl) (H0 := H0) hb β m H i hβ ht hf r
  refine ⟨fun w e => ?_, fun e => ?_⟩
  · simp only [Src.get] at e k1
    split at e
    · rename_i w' e1
      cases e
      obtain ⟨⟨xs, x, hs, hx⟩, g⟩ := k1 w' e1
      refine ⟨⟨xs, x, hs, hx⟩, fun y H' z => ?_⟩
      obtain ⟨p, v, hp, rfl, rfl, hv⟩ := z
      obtain ⟨_, _, q⟩ := g v H ⟨rfl, hv⟩
      obtain ⟨x2, r2⟩ := r.newT hp [.int i, v]
      exact ⟨x2, r2, .tup (.of upd_same) (.cons (.int _) (.cons (q.mono r x2) .nil))⟩
    · cases e
    · cases e
  · simp only [Src.get] at e k2
    split at e
    · cases e
    · rename_i e1
      exact k2 e1
    · cases e
theorem is_ent {a : Addr} {vs : List V} {ws : List W} {β0 : List Addr} {H0 : Hp} (hq0 : SqT X.K H0 a vs) (t0 : RWs X.K β0 H0 ws vs) : IS X cl (Iet X.K a) (.enm (.tup ws)) β0 H0 := by
  intro β m H i hβ ht hf r
  obtain ⟨k1, k2⟩ := is_tup (X := X) (cl := cl) hq0 t0 β m H i hβ ht hf r
  refine ⟨fun w e => ?_, fun e => ?_⟩
  · simp only [Src.get] at e k1
    split at e
    · rename_i w' e1
      cases e
      obtain ⟨⟨xs, x, hs, hx⟩, g⟩ := k1 w' e1
      refine ⟨⟨xs, x, hs, hx⟩, fun y H' z => ?_⟩
      obtain ⟨p, v, hp, rfl, rfl, hv⟩ := z
      obtain ⟨_, _, q⟩ := g v H ⟨rfl, hv⟩
      obtain ⟨x2, r2⟩ := r.newT hp [.int i, v]
      exact ⟨x2, r2, .tup (.of upd_same) (.cons (.int _) (.cons (q.mono r x2) .nil))⟩
    · cases e
    · cases e
  · simp only [Src.get] at e k2
    split at e
    · cases e
    · rename_i e1
      exact k2 e1
    · cases e
theorem i_enm {a : Expr} {d : E} {p tpos : Pos} {elts : List Expr} {x1} (hg : Gl X "enumerate") (hm : X.mg "enumerate" = none) (ha : PE X a (SE X cl (evE C d))) (hs : starEach [a] X.env = [(false, eval a X.env)]) : PI X (.Tuple elts x1 tpos) (.Call (.Name "enumerate" p) [a] [] pos) (SI X cl (evI C (.enm d))) := by
  refine PI.imp (PI.or (pi_enum hg hm (pa_cons ha pa_nil hs) hs) (pi_enumT hg hm (pa_cons ha pa_nil hs) hs)) ?_
  rintro σ H Rr ⟨β, ρ, m, src, m', r, l, e, k⟩
  simp only [evI] at e
  obtain ⟨x, m1, e1, e⟩ := R.bind_ok e
  split at e
  · rename_i s e2
    cases e
    cases x with
    | tup xs =>
      refine .inr ⟨β, ρ, m, _, _, r, l, e1, fun β1 H1 v1 x1 r1 q1 => ?_⟩
      obtain ⟨a, vs, rfl, rfl, hs, t⟩ := src_tup r1 q1 e2
      exact ⟨a, rfl, ⟨vs, hs⟩, k _ _ _ x1 r1 (is_ent hs t)⟩
    | fz xs =>
      refine .inl ⟨β, ρ, m, _, _, r, l, e1, fun β1 H1 v1 x1 r1 q1 => ?_⟩
      obtain ⟨a, vs, rfl, rfl, hs, t⟩ := src_fz r1 q1 e2
      exact ⟨a, rfl, ⟨vs, hs.l⟩, k _ _ _ x1 r1 (is_enf hs t)⟩
    | ref n =>
      refine .inl ⟨β, ρ, m, _, _, r, l, e1, fun β1 H1 v1 x1 r1 q1 => ?_⟩
      obtain ⟨a, vs, rfl, rfl, hb, hs⟩ := src_ref r1 q1 e2
      exact ⟨a, rfl, ⟨vs, hs⟩, k _ _ _ x1 r1 (is_enl hb)⟩
    | _ => cases e2
  · cases e
theorem RL.set {K : PySem.W.Frag} {β : List Addr} {H : Hp} {ρ : Loc} {σ : L2.St} {i : Nat} {w : W} {v : V} (l : RL K β H ρ σ) (q : RW K β H w v) : RL K β H (ρ.set i (some w)) (σ.set i (some v)) := by
  refine ⟨by simp [l.len], fun {j w'} h => ?_⟩
  by_cases e : i = j
  · subst e
    have hl : i < ρ.length := by have := (List.getElem?_eq_some_iff.mp h).1; simpa using this
    rw [List.getElem?_set_self hl] at h
    cases h
    exact ⟨v, List.getElem?_set_self (by rw [← l.len]; exact hl), q⟩
  · rw [List.getElem?_set_ne e] at h ⊢
    exact l.at_ h
theorem g_var {i : Nat} {x : Str} (hN : X.N.Nodup) (hi : X.N[i]? = some x) (hx : L2.Loc X.env.scope x) (hf : X.fn x = true ∨ X.env.scope.names.lookup x = some .local) : PG X (.Name x pos) (SG X cl (evA C (.pt (.var i)))) := by
  refine PG.imp (pg_name hN hi hx hf) ?_
  rintro v σ H Q ⟨β, ρ, m, w, ρ', m', r, l, q, e, k⟩
  simp only [evA, bindT] at e
  cases e
  exact k _ _ _ Ext.refl r (l.set q)
theorem gs_nil : PGs X [] (SGs X cl (evAs C .nil)) := by
  refine PGs.imp pgs_nil ?_
  rintro vs σ H Q ⟨β, ρ, m, ws, ρ', m', r, l, q, e, k⟩
  cases q with
  | nil =>
    simp only [evAs] at e
    cases e
    exact ⟨rfl, k _ _ _ Ext.refl r l⟩
  | cons _ _ => simp only [evAs] at e; cases e
theorem gs_cons {a : Expr} {es : List Expr} {da : A} {ds : As} (h1 : PG X a (SG X cl (evA C da))) (h2 : PGs X es (SGs X cl (evAs C ds))) (hs : (assignEach (a :: es) X.env).map (·.2) = assign a X.env :: (assignEach es X.env).map (·.2)) : PGs X (a :: es) (SGs X cl (evAs C (.cons da ds))) := by
  refine PGs.imp (pgs_cons h1 h2 hs) ?_
  rintro vs σ H Q ⟨β, ρ, m, ws, ρ', m', r, l, q, e, k⟩
  cases q with
  | nil => simp only [evAs] at e; cases e
  | cons q1 q2 =>
    simp only [evAs] at e
    obtain ⟨ρ1, m1, e1, e⟩ := R.bind_ok e
    refine ⟨_, _, rfl, β, ρ, m, _, ρ1, m1, r, l, q1, e1, fun β1 H1 σ1 x1 r1 l1 => ?_⟩
    exact ⟨β1, ρ1, m1, _, ρ', m', r1, l1, q2.mono r x1, e, fun β2 H2 σ2 x2 r2 l2 => k _ _ _ (x1.trans r1 x2) r2 l2⟩
theorem As.len_ok {C : D.Cx} : ∀ {ds : As} {ws : List W} {ρ ρ' : Loc} {m m' : Mem}, evAs C ds ws ρ m = .ok ρ' m' → True := fun _ => trivial
def As.len : As → Nat
  | .nil => 0
  | .cons _ l => l.len + 1
theorem evAs_len {C : D.Cx} : ∀ {ds : As} {ws : List W} {ρ ρ' : Loc} {m m' : Mem}, evAs C ds ws ρ m = .ok ρ' m' → ws.length = ds.len
  | .nil, ws, _, _, _, _, e => by
    cases ws with
    | nil => rfl
    | cons _ _ => simp only [evAs] at e; cases e
  | .cons a l, ws, _, _, _, _, e => by
    cases ws with
    | nil => simp only [evAs] at e; cases e
    | cons w ws =>
      simp only [evAs] at e
      obtain ⟨ρ1, m1, e1, e⟩ := R.bind_ok e
      rw [List.length_cons, evAs_len e]; rfl
theorem g_tup {es : List Expr} {k : Nat} {ds : As} (hc : X.calm = true) (h : PGs X es (SGs X cl (evAs C ds))) (hn : (assignEach es X.env).length = ds.len) (hst : (assignEach es X.env).findIdx? (·.1) = none) : PG X (.Tuple es k pos) (SG X cl (evA C (.tup ds))) := by
  refine PG.imp (pg_tup hc h hn hst) ?_
  rintro v σ H Q ⟨β, ρ, m, w, ρ', m', r, l, q, e, k⟩
  cases q with
  | tup h t =>
    simp only [evA] at e
    exact ⟨_, _, rfl, h, by rw [← t.length]; exact evAs_len e, β, ρ, m, _, ρ', m', r, l, t, e, k⟩
  | _ => simp only [evA] at e; cases e
def T.ofTs : Ts → As
  | .nil => .nil
  | .cons t ts => .cons (.pt t) (T.ofTs ts)
mutual
theorem bindT_ev {C : D.Cx} : ∀ (t : T) (w : W) (ρ ρ' : Loc) (m : Mem), bindT t w ρ = some ρ' → evA C (.pt t) w ρ m = .ok ρ' m
  | t, w, ρ, ρ', m, h => by simp only [evA, h]
end
theorem bindTs_ev {C : D.Cx} : ∀ (ts : Ts) (ws : List W) (ρ ρ' : Loc) (m : Mem), bindTs ts ws ρ = some ρ' → evAs C (T.ofTs ts) ws ρ m = .ok ρ' m
  | .nil, ws, ρ, ρ', m, h => by
    cases ws with
    | nil => simp only [bindTs] at h; cases h; simp only [T.ofTs, evAs]
    | cons _ _ => simp only [bindTs] at h; cases h
  | .cons t ts, ws, ρ, ρ', m, h => by
    cases ws with
    | nil => simp only [bindTs] at h; cases h
    | cons w ws =>
      simp only [bindTs] at h
      split at h
      · rename_i ρ1 e1
        simp only [T.ofTs, evAs, evA, e1, R.bind]
        exact bindTs_ev ts ws ρ1 ρ' m h
      · cases h
theorem g_ptup {es : List Expr} {k : Nat} {ts : Ts} (h : PG X (.Tuple es k pos) (SG X cl (evA C (.tup (T.ofTs ts))))) : PG X (.Tuple es k pos) (SG X cl (evA C (.pt (.tup ts)))) := by
  refine PG.imp h ?_
  rintro v σ H Q ⟨β, ρ, m, w, ρ', m', r, l, q, e, k⟩
  refine ⟨β, ρ, m, w, ρ', m', r, l, q, ?_, k⟩
  simp only [evA, bindT] at e ⊢
  cases w with
  | tup xs =>
    simp only at e ⊢
    split at e
    · rename_i ρ1 e1
      cases e
      exact bindTs_ev _ _ _ _ _ e1
    · cases e
  | _ => cases e
theorem so_set : PSet X (fun o i v H Q => ∃ β m wo wi wv m', Rel X.K cl β m H ∧ RW X.K β H wo o ∧ RW X.K β H wi i ∧ RW X.K β H wv v ∧ setop wo wi wv m = .ok () m' ∧ ∀ β' H', Ext β H β' H' → Rel X.K cl β' m' H' → Q H') := by
  intro pins s σ H o i v ov iv u Q I r1 r2 r3 h
  obtain ⟨β, m, wo, wi, wv, m', r, qo, qi, qv, e, k⟩ := h
  unfold setop at e
  split at e
  · split at e
    · rename_i xs e1
      split at e
      · rename_i j e2
        cases e; cases qi
        obtain ⟨a, vs, rfl, hb, ha, t⟩ := r.lst qo e1
        obtain ⟨x2, r2'⟩ := r.setL e1 hb (t.set qv j)
        exact set_list pins s σ H _ _ _ ov iv u Q I r1 r2 r3 ⟨_, _, _, _, rfl, rfl, ha, by rw [← t.length]; exact e2, k _ _ x2 r2'⟩
      · cases e
    · cases e
  · cases e
theorem g_sub {o i : Expr} {do_ di : E} (ho : PE X o (SE X cl (evE C do_))) (hi : PE X i (SE X cl (evE C di))) (ha : ∀ v, assign (.Subscript o i pos) X.env v = (do
      let ov ← holding [v] (eval o X.env)
      let iv ← holding [v, ov] (eval i X.env)
      standAt pos
      holding [v, ov, iv] (setItem ov iv v)
      release [v, ov, iv] [])) : PG X (.Subscript o i pos) (SG X cl (evA C (.sub do_ di))) := by
  refine PG.imp (pg_sub ho hi (so_set (cl := cl)) ha) ?_
  rintro v σ H Q ⟨β, ρ, m, w, ρ', m', r, l, q, e, k⟩
  simp only [evA] at e
  obtain ⟨x, m1, e1, e⟩ := R.bind_ok e
  obtain ⟨y, m2, e2, e⟩ := R.bind_ok e
  obtain ⟨u, m3, e3, e⟩ := R.bind_ok e
  cases e
  refine ⟨β, ρ, m, x, m1, r, l, e1, fun β1 H1 v1 x1 r1 q1 => ?_⟩
  refine ⟨β1, ρ, m1, y, m2, r1, l.mono r x1, e2, fun β2 H2 v2 x2 r2 q2 => ?_⟩
  exact ⟨β2, m2, x, y, w, _, r2, q1.mono r1 x2, q2, (q.mono r x1).mono r1 x2, e3, fun β3 H3 x3 r3 => k _ _ _ ((x1.trans r1 x2).trans r2 x3) r3 (((l.mono r x1).mono r1 x2).mono r2 x3)⟩
theorem ss_nil : PSs X [] (SS X cl (evSs C .nil)) := by
  refine PSs.imp pss_nil ?_
  rintro D σ H ⟨β, ρ, m, f, m', r, l, e, k⟩
  simp only [evSs] at e
  cases e
  exact k _ _ Ext.refl r σ l
theorem ss_cons {st : Stmt} {rest : List Stmt} {d : S} {ds : Ss} (h1 : PS X st (SS X cl (evS C d))) (h2 : PSs X rest (SS X cl (evSs C ds))) : PSs X (st :: rest) (SS X cl (evSs C (.cons d ds))) := by
  refine PSs.imp (pss_cons h1 h2) ?_
  rintro D σ H ⟨β, ρ, m, f, m', r, l, e, k⟩
  simp only [evSs] at e
  obtain ⟨f1, m1, e1, e⟩ := R.bind_ok e
  refine ⟨β, ρ, m, f1, m1, r, l, e1, fun β1 H1 x1 r1 => ?_⟩
  cases f1 with
  | nx ρ1 =>
    intro σ1 l1
    exact ⟨β1, ρ1, m1, f, m', r1, l1, e, fun β2 H2 x2 r2 => k _ _ (x1.trans r1 x2) r2⟩
  | rt w => simp only at e; cases e; exact k _ _ x1 r1
  | bk ρ1 => simp only at e; cases e; exact k _ _ x1 r1
  | ct ρ1 => simp only at e; cases e; exact k _ _ x1 r1
theorem st_asg {tg a : Expr} {d : E} {da : A} (he : PE X a (SE X cl (evE C d))) (hg : PG X tg (SG X cl (evA C da))) (hs : swapsWithSole [tg] a pos.line X.env = pure false) (hw : swappedStores [tg] a X.env = pure none) (h1 : (assignEach [tg] X.env).map (·.2) = [assign tg X.env]) : PS X (.Assign [tg] a pos) (SS X cl (evS C (.asg da d))) := by
  refine PS.imp (ps_asg he hg hs hw h1) ?_
  rintro D σ H ⟨β, ρ, m, f, m', r, l, e, k⟩
  simp only [evS] at e
  obtain ⟨w, m1, e1, e⟩ := R.bind_ok e
  obtain ⟨ρ2, m2, e2, e⟩ := R.bind_ok e
  cases e
  refine ⟨β, ρ, m, w, m1, r, l, e1, fun β1 H1 v1 x1 r1 q1 => ?_⟩
  exact ⟨β1, ρ, m1, w, ρ2, _, r1, l.mono r x1, q1, e2, fun β2 H2 σ2 x2 r2 l2 => k _ _ (x1.trans r1 x2) r2 σ2 l2⟩
theorem st_set {x : Str} {i : Nat} {a : Expr} {d : E} {p : Pos} (hN : X.N.Nodup) (hi : X.N[i]? = some x) (hx : L2.Loc X.env.scope x) (he : PE X a (SE X cl (evE C d))) (hs : swapsWith a (some (.Name x p)) pos.line X.env = pure false) (hf : X.fn x = true ∨ X.env.scope.names.lookup x = some .local) : PS X (.Assign [.Name x p] a pos) (SS X cl (evS C (.asg (.pt (.var i)) d))) := by
  refine PS.imp (ps_set hN hi hx he hs hf) ?_
  rintro D σ H ⟨β, ρ, m, f, m', r, l, e, k⟩
  simp only [evS] at e
  obtain ⟨w, m1, e1, e⟩ := R.bind_ok e
  simp only [evA, bindT, R.bind] at e
  cases e
  exact ⟨β, ρ, m, w, _, r, l, e1, fun β1 H1 v1 x1 r1 q1 => k _ _ x1 r1 _ ((l.mono r x1).set q1)⟩
theorem st_par {i j : Nat} {x y : Str} {a b : Expr} {da db : E} {px py pt pt2 : Pos} {kt k2} (hc : X.calm = true) (hN : X.N.Nodup) (hi : X.N[i]? = some x) (hj : X.N[j]? = some y) (hij : i ≠ j) (hx : X.env.scope.names.lookup x = some .local) (hy : X.env.scope.names.lookup y = some .local)
    (ha : PA X [a, b] (SA X cl (evEs C (.cons da (.cons db .nil))))) (hw : swappedStores [.Tuple [.Name x px, .Name y py] kt pt] (.Tuple [a, b] k2 pt2) X.env = pure (some [x, y])) (hs : swapsWithSole [.Tuple [.Name x px, .Name y py] kt pt] (.Tuple [a, b] k2 pt2) pos.line X.env = pure false) :
    PS X (.Assign [.Tuple [.Name x px, .Name y py] kt pt] (.Tuple [a, b] k2 pt2) pos) (SS X cl (evS C (.asg (.pt (.tup (.cons (.var i) (.cons (.var j) .nil)))) (.tup (.cons da (.cons db .nil)))))) := by
  refine PS.imp (ps_par hc hN hi hj hij hx hy ha hw hs) ?_
  rintro D σ H ⟨β, ρ, m, f, m', r, l, e, k⟩
  simp only [evS, evE] at e
  obtain ⟨w, m1, e1, e⟩ := R.bind_ok e
  obtain ⟨ws, m2, e2, e3⟩ := R.bind_ok e1
  split at e3
  · cases e3
    refine ⟨β, ρ, m, ws, _, r, l, e2, fun β1 H1 v1 x1 r1 q1 => ?_⟩
    obtain ⟨ρ2, m3, e4, e⟩ := R.bind_ok e
    cases e
    simp only [evA, bindT] at e4
    cases q1 with
    | nil => simp only [bindTs] at e4; cases e4
    | cons q1 q2 =>
      cases q2 with
      | nil => simp only [bindTs, bindT] at e4; cases e4
      | cons q2 q3 =>
        cases q3 with
        | nil =>
          simp only [bindTs, bindT] at e4
          cases e4
          exact ⟨_, _, rfl, k _ _ x1 r1 _ (((l.mono r x1).set q1).set q2)⟩
        | cons _ _ => simp only [bindTs, bindT] at e4; cases e4
  · cases e3
theorem st_aug {i : Nat} {x : Str} {a : Expr} {d : E} {op : Operator} {p : Pos} (hop : op = .Add ∨ op = .Sub) (hN : X.N.Nodup) (hi : X.N[i]? = some x) (hx : L2.Loc X.env.scope x) (he : PE X a (SE X cl (evE C d))) (hf : X.fn x = true ∨ X.env.scope.names.lookup x = some .local) : PS X (.AugAssign (.Name x p) op a pos) (SS X cl (evS C (.aug i op d))) := by
  rcases hop with rfl | rfl
  · refine PS.imp (ps_aug hN hi hx he ip_add hf) ?_
    rintro D σ H ⟨β, ρ, m, f, m', r, l, e, k⟩
    simp only [evS] at e
    split at e
    · rename_i w0 e0
      obtain ⟨y, m1, e1, e⟩ := R.bind_ok e
      obtain ⟨v0, e2, q0⟩ := l.at_ e0
      refine ⟨v0, e2, β, ρ, m, y, m1, r, l, e1, fun β1 H1 v1 x1 r1 q1 => ?_⟩
      cases w0 with
      | int a =>
        cases y with
        | int b =>
          simp only at e
          injection e with e3 e4
          subst e3 e4
          cases q0; cases q1
          exact ⟨_, _, rfl, rfl, k _ _ x1 r1 _ ((l.mono r x1).set (.int _))⟩
        | _ => cases e
      | _ => cases e
    · cases e
  · refine PS.imp (ps_aug hN hi hx he ip_sub hf) ?_
    rintro D σ H ⟨β, ρ, m, f, m', r, l, e, k⟩
    simp only [evS] at e
    split at e
    · rename_i w0 e0
      obtain ⟨y, m1, e1, e⟩ := R.bind_ok e
      obtain ⟨v0, e2, q0⟩ := l.at_ e0
      refine ⟨v0, e2, β, ρ, m, y, m1, r, l, e1, fun β1 H1 v1 x1 r1 q1 => ?_⟩
      cases w0 with
      | int a =>
        cases y with
        | int b =>
          simp only at e
          injection e with e3 e4
          subst e3 e4
          cases q0; cases q1
          exact ⟨_, _, rfl, rfl, k _ _ x1 r1 _ ((l.mono r x1).set (.int _))⟩
        | _ => cases e
      | _ => cases e
    · cases e
theorem st_expr {a : Expr} {d : E} (he : PE X a (SE X cl (evE C d))) (hs : swapsWith a none pos.line X.env = pure false) : PS X (.Expr a pos) (SS X cl (evS C (.expr d))) := by
  refine PS.imp (ps_expr he hs) ?_
  rintro D σ H ⟨β, ρ, m, f, m', r, l, e, k⟩
  simp only [evS] at e
  obtain ⟨w, m1, e1, e⟩ := R.bind_ok e
  cases e
  exact ⟨β, ρ, m, w, _, r, l, e1, fun β1 H1 v1 x1 r1 q1 => k _ _ x1 r1 _ (l.mono r x1)⟩
theorem st_ret {a : Expr} {d : E} (he : PE X a (SE X cl (evE C d))) : PS X (.Return (some a) pos) (SS X cl (evS C (.ret d))) := by
  refine PS.imp (ps_ret he) ?_
  rintro D σ H ⟨β, ρ, m, f, m', r, l, e, k⟩
  simp only [evS] at e
  obtain ⟨w, m1, e1, e⟩ := R.bind_ok e
  cases e
  exact ⟨β, ρ, m, w, _, r, l, e1, fun β1 H1 v1 x1 r1 q1 => k _ _ x1 r1 _ q1⟩
theorem st_retN : PS X (.Return none pos) (SS X cl (evS C .retN)) := by
  refine PS.imp ps_retN ?_
  rintro D σ H ⟨β, ρ, m, f, m', r, l, e, k⟩
  simp only [evS] at e
  cases e
  exact k _ _ Ext.refl r _ .non
theorem st_pass : PS X (.Pass pos) (SS X cl (evS C .pass)) := by
  refine PS.imp ps_pass ?_
  rintro D σ H ⟨β, ρ, m, f, m', r, l, e, k⟩
  simp only [evS] at e
  cases e
  exact k _ _ Ext.refl r _ l
theorem st_brk : PS X (.Break pos) (SS X cl (evS C .brk)) := by
  refine PS.imp ps_break ?_
  rintro D σ H ⟨β, ρ, m, f, m', r, l, e, k⟩
  simp only [evS] at e
  cases e
  exact k _ _ Ext.refl r _ l
theorem st_cont : PS X (.Continue pos) (SS X cl (evS C .cont)) := by
  refine PS.imp ps_continue ?_
  rintro D σ H ⟨β, ρ, m, f, m', r, l, e, k⟩
  simp only [evS] at e
  cases e
  exact k _ _ Ext.refl r _ l
theorem st_never {st : Stmt} : PS X st (SS X cl (evS C .never)) := by
  refine PS.imp ps_never ?_
  rintro D σ H ⟨β, ρ, m, f, m', r, l, e, k⟩
  simp only [evS] at e
  cases e
theorem st_if {t : Expr} {dt : E} {a b : List Stmt} {da db : Ss} (ht : PT X t (ST X cl (evT C dt))) (ha : PSs X a (SS X cl (evSs C da))) (hb : PSs X b (SS X cl (evSs C db))) : PS X (.If t a b pos) (SS X cl (evS C (.ife dt da db))) := by
  refine PS.imp (ps_if ht ha hb) ?_
  rintro D σ H ⟨β, ρ, m, f, m', r, l, e, k⟩
  simp only [evS] at e
  obtain ⟨c, m1, e1, e⟩ := R.bind_ok e
  refine ⟨β, ρ, m, c, m1, r, l, e1, fun β1 H1 x1 r1 => ?_⟩
  split at e
  · rename_i hc
    rw [if_pos hc]
    exact ⟨β1, ρ, m1, f, m', r1, l.mono r x1, e, fun β2 H2 x2 r2 => k _ _ (x1.trans r1 x2) r2⟩
  · rename_i hc
    rw [if_neg hc]
    exact ⟨β1, ρ, m1, f, m', r1, l.mono r x1, e, fun β2 H2 x2 r2 => k _ _ (x1.trans r1 x2) r2⟩
theorem Ext.sq {β β' : List Addr} {m : Mem} {H H' : Hp} (r : Rel X.K cl β m H) (x : Ext β H β' H') {a : Addr} {vs : List V} (h : SqT X.K H a vs) : SqT X.K H' a vs := x.sqT r noD h
theorem Ext.sf {β β' : List Addr} {m : Mem} {H H' : Hp} (r : Rel X.K cl β m H) (x : Ext β H β' H') {a : Addr} {vs : List V} (h : SqF X.K H a vs) : SqF X.K H' a vs := x.sqF r noD h
theorem st_for {tg iter : Expr} {t : T} {it : E} {body : List Stmt} {db : Ss} (hp : PassesOwn (model X.prog X.w) X.A X.env X.xe) (hc : X.calm = true) (hi : PI X tg iter (SI X cl (evI C it))) (hg : PG X tg (SG X cl (evA C (.pt t)))) (hb : PSs X body (SS X cl (evSs C db)))
    (hs : ∀ x, foldedSetIterable iter X.env x = pure x) : PS X (.For tg iter body [] pos) (SS X cl (evS C (.for_ t it db))) := by
  refine PS.imp (ps_for hp hc hi hg hb hs) ?_
  rintro D σ H ⟨β, ρ, m, f, m', r, l, e, k⟩
  simp only [evS] at e
  obtain ⟨src, m1, e1, e⟩ := R.bind_ok e
  refine ⟨β, ρ, m, src, m1, r, l, e1, fun β1 H1 J x1 r1 is => ?_⟩
  refine ⟨fun i n σ H => ∃ β ρ m, Ext β1 H1 β H ∧ Rel X.K cl β m H ∧ RL X.K β H ρ σ ∧ forN src.get t (fun ρ m => evSs C db ρ m) n i ρ m = .ok f m', ⟨_, β1, ρ, m1, Ext.refl, r1, l.mono r x1, e⟩, ?_⟩
  rintro i n σ H ⟨β2, ρ2, m2, x2, r2, l2, e2⟩
  have pre : ∃ γ, β2 = β1 ++ γ := let ⟨γ, h, _⟩ := x2.pre; ⟨γ, h⟩
  obtain ⟨go, stop⟩ := is β2 m2 H i pre (fun h => x2.sq r1 h) (fun h => x2.sf r1 h) r2
  unfold forN at e2
  split at e2
  · cases e2
  · rename_i e3
    cases e2
    exact .inl ⟨stop e3, k _ _ (x1.trans r1 x2) r2 _ l2⟩
  · rename_i w e3
    obtain ⟨g1, g2⟩ := go w e3
    refine .inr ⟨g1, ?_⟩
    split at e2
    · cases e2
    · rename_i n'
      split at e2
      · cases e2
      · rename_i ρ3 e4
        obtain ⟨ff, m4, e5, e6⟩ := R.bind_ok e2
        refine ⟨fun σ' H' => ∃ β ρ m, Ext β1 H1 β H' ∧ Rel X.K cl β m H' ∧ RL X.K β H' ρ σ' ∧ forN src.get t (fun ρ m => evSs C db ρ m) n' (i + 1) ρ m = .ok f m', fun σ' H' h => ⟨n', Nat.lt_succ_self _, h⟩, fun x H' y => ?_⟩
        obtain ⟨x3, r3, q3⟩ := g2 x H' y
        refine ⟨β2, ρ2, m2, w, ρ3, m2, r3, l2.mono r2 x3, q3, by simp only [evA, e4], fun β5 H5 σ5 x5 r5 l5 => ?_⟩
        refine ⟨β5, ρ3, m2, ff, m4, r5, l5, e5, fun β6 H6 x6 r6 => ?_⟩
        have x16 := ((x2.trans r2 x3).trans r3 x5).trans r5 x6
        cases ff with
        | nx ρ6 => exact fun σ6 l6 => ⟨β6, ρ6, m4, x16, r6, l6, e6⟩
        | ct ρ6 => exact fun σ6 l6 => ⟨β6, ρ6, m4, x16, r6, l6, e6⟩
        | bk ρ6 => cases e6; exact fun σ6 l6 => k _ _ (x1.trans r1 x16) r6 σ6 l6
        | rt w6 => cases e6; exact fun v6 q6 => k _ _ (x1.trans r1 x16) r6 v6 q6
theorem st_while {c : Expr} {dc : E} {body : List Stmt} {db : Ss} (hp : PassesOwn (model X.prog X.w) X.A X.env X.xe) (hc : PT X c (ST X cl (evT C dc))) (hb : PSs X body (SS X cl (evSs C db))) : PS X (.While c body [] pos) (SS X cl (evS C (.while_ dc db))) := by
  refine PS.imp (ps_while hp hc hb) ?_
  rintro D σ H ⟨β, ρ, m, f, m', r, l, e, k⟩
  simp only [evS] at e
  refine ⟨fun n σ H' => ∃ β' ρ m, Ext β H β' H' ∧ Rel X.K cl β' m H' ∧ RL X.K β' H' ρ σ ∧ whileN (fun ρ m => evT C dc ρ m) (fun ρ m => evSs C db ρ m) n ρ m = .ok f m', ⟨_, β, ρ, m, Ext.refl, r, l, e⟩, ?_⟩
  rintro n σ H1 ⟨β1, ρ1, m1, x1, r1, l1, e1⟩
  cases n with
  | zero => simp only [whileN] at e1; cases e1
  | succ n =>
    simp only [whileN] at e1
    obtain ⟨b, m2, e2, e3⟩ := R.bind_ok e1
    refine ⟨β1, ρ1, m1, b, m2, r1, l1, e2, fun β2 H2 x2 r2 => ?_⟩
    have x02 := x1.trans r1 x2
    split at e3
    · rename_i hb'
      dsimp only
      rw [if_pos hb']
      obtain ⟨ff, m4, e5, e6⟩ := R.bind_ok e3
      refine ⟨fun σ' H' => ∃ β' ρ m, Ext β H β' H' ∧ Rel X.K cl β' m H' ∧ RL X.K β' H' ρ σ' ∧ whileN (fun ρ m => evT C dc ρ m) (fun ρ m => evSs C db ρ m) n ρ m = .ok f m', fun σ' H' h => ⟨n, Nat.lt_succ_self _, h⟩, ?_⟩
      refine ⟨β2, ρ1, m2, ff, m4, r2, l1.mono r1 x2, e5, fun β6 H6 x6 r6 => ?_⟩
      have x06 := x02.trans r2 x6
      cases ff with
      | nx ρ6 => exact fun σ6 l6 => ⟨β6, ρ6, m4, x06, r6, l6, e6⟩
      | ct ρ6 => exact fun σ6 l6 => ⟨β6, ρ6, m4, x06, r6, l6, e6⟩
      | bk ρ6 => cases e6; exact fun σ6 l6 => k _ _ x06 r6 σ6 l6
      | rt w6 => cases e6; exact fun v6 q6 => k _ _ x06 r6 v6 q6
    · rename_i hb'
      dsimp only
      rw [if_neg hb']
      cases e3
      exact k _ _ x02 r2 _ (l1.mono r1 x2)
end
end D
end
section
set_option Elab.async false
set_option linter.all false
set_option maxRecDepth 100000
set_option autoImplicit false
namespace D
open PySem PySem.Spec PyProof.Rows L2
def restWp (prog : Program) (w : World) (A : Around) (e elt : Expr) (d : Nat) (acc : Value) (env : Env) (Q : Shared → Prop) : Option Comprehension → Shared → Prop
  | none, s => wpAny (model prog w) A (eval elt env) (fun x s₄ => wpAny (model prog w) A (call (.builtin "list.append") [acc, x]) (fun _ s₅ => Q s₅) (fun _ _ => False) s₄) (fun _ _ => False) s
  | some g', s => wpAny (model prog w) A (eval g'.iter env) (fun x s₄ => wpAny (model prog w) A (pyIter x) (fun it' s₅ => codeAny (model prog w) A (.compStart e (d + 1) it' acc env) (fun r s₆ => match r with
      | .ok _ => Q s₆
      | .error _ => False) s₅) (fun _ _ => False) s₄) (fun _ _ => False) s
theorem compTurn_last (elt target iter : Expr) (gens : List Comprehension) (ifs : List Expr) (scope : Scope) (pos : Pos) (d : Nat) (it acc : Value) (env : Env) (h : gens[d]? = some ⟨target, iter, ifs, 0⟩) (hn : gens[d + 1]? = none) :
    compTurn (.ListComp elt gens scope pos) d it acc env = (do
      standAt iter.pos
      match ← pyNext it with
      | none => pure (.done .next)
      | some v =>
        letOwnedTupleGo target it v
        assign target env v
        let mut ok := true
        for c in ifs do
          if ok then ok ← isTrue c env (eval c env)
        if ok then
          (do let _ ← call (.builtin "list.append") [acc, ← eval elt env])
        again (.compLoop (.ListComp elt gens scope pos) d it acc env)) := by
  unfold compTurn
  simp only [h, hn]
  rfl
theorem compTurn_next (elt target iter target' iter' : Expr) (gens : List Comprehension) (ifs ifs' : List Expr) (scope : Scope) (pos : Pos) (d : Nat) (it acc : Value) (env : Env) (h : gens[d]? = some ⟨target, iter, ifs, 0⟩) (hn : gens[d + 1]? = some ⟨target', iter', ifs', 0⟩) :
    compTurn (.ListComp elt gens scope pos) d it acc env = (do
      standAt iter.pos
      match ← pyNext it with
      | none => pure (.done .next)
      | some v =>
        letOwnedTupleGo target it v
        assign target env v
        let mut ok := true
        for c in ifs do
          if ok then ok ← isTrue c env (eval c env)
        if ok then
          let x ← eval iter' env
          standAt iter'.pos
          let x ← foldedSetIterable iter' env x
          let _ ← runOwn (.compStart (.ListComp elt gens scope pos) (d + 1) (← holding [x] (pyIter x)) acc env) env
        again (.compLoop (.ListComp elt gens scope pos) d it acc env)) := by
  unfold compTurn
  simp only [h, hn]
  rfl
section
variable {prog : Program} {w : World} {A : Around} {R : Result → Shared → Prop} {s : Shared}
theorem compLoop_any {elt target iter : Expr} {gens : List Comprehension} {ifs : List Expr} {scope : Scope} {pos : Pos} {d : Nat} {it acc : Value} {env : Env} (hg : gens[d]? = some ⟨target, iter, ifs, 0⟩) (hn : ∀ g', gens[d + 1]? = some g' → g'.is_async = 0 ∧ ∀ x, foldedSetIterable g'.iter env x = pure x) (I : Nat → Shared → Prop)
    (turn : ∀ n s, I n s → wpAny (model prog w) A (pyNext it) (fun r s₁ => match r with
      | none => R (.ok .next) s₁
      | some v => wpAny (model prog w) A (letOwnedTupleGo target it v) (fun _ s₁' => wpAny (model prog w) A (assign target env v) (fun _ s₂ =>
          wpAny (model prog w) A (forIn ifs true fun c r => if r = true then do let ok ← isTrue c env (eval c env); pure (ForInStep.yield ok) else pure (ForInStep.yield r)) (fun ok s₃ =>
            if ok = true then restWp prog w A (.ListComp elt gens scope pos) elt d acc env (fun s₅ => ∃ m, m < n ∧ I m s₅) gens[d + 1]? s₃
            else ∃ m, m < n ∧ I m s₃) (fun _ _ => False) s₂) (fun _ _ => False) s₁') (fun _ _ => False) s₁) (fun _ _ => False) s)
    (n : Nat) (h : I n s) :
    codeAny (model prog w) A (.compLoop (.ListComp elt gens scope pos) d it acc env) R s := by
  refine codeAny_loop rfl I (fun n s hI => ?_) n h
  show wpAny _ A ((compTurn (.ListComp elt gens scope pos) d it acc env).onRaise (fun x => do noteFrame x env; theTreesLotGoes x)) _ _ s
  refine wpAny_noted ?_
  cases hx : gens[d + 1]? with
  | none =>
    rw [compTurn_last _ _ _ _ _ _ _ _ _ _ _ hg hx]
    refine wpAny_bind (wpAny_standAt (wpAny_bind (wpAny_mono (turn n s hI) (fun r s₁ h₁ => ?_) fun _ _ h' => h'.elim)))
    cases r with
    | none => exact wpAny_pure h₁
    | some v =>
      refine wpAny_bind (wpAny_mono h₁ (fun _ s₁' h₁' => ?_) fun _ _ h' => h'.elim)
      refine wpAny_bind (wpAny_mono h₁' (fun _ s₂ h₂ => wpAny_bind (wpAny_mono h₂ (fun ok s₃ h₃ => ?_) fun _ _ h' => h'.elim)) fun _ _ h' => h'.elim)
      cases ok with
      | false => exact wpAny_pure ⟨rfl, h₃⟩
      | true =>
        rw [hx] at h₃
        exact wpAny_bind (wpAny_bind (wpAny_mono h₃ (fun x s₄ h₄ => wpAny_bind (wpAny_mono h₄ (fun _ s₅ h₅ => wpAny_pure (wpAny_pure ⟨rfl, h₅⟩)) fun _ _ h' => h'.elim)) fun _ _ h' => h'.elim))
  | some g' =>
    obtain ⟨target', iter', ifs', as⟩ := g'
    obtain ⟨h0, hfs⟩ := hn _ hx
    have h0 : as = 0 := h0
    subst h0
    rw [compTurn_next _ _ _ _ _ _ _ _ _ _ _ _ _ _ hg hx]
    refine wpAny_bind (wpAny_standAt (wpAny_bind (wpAny_mono (turn n s hI) (fun r s₁ h₁ => ?_) fun _ _ h' => h'.elim)))
    cases r with
    | none => exact wpAny_pure h₁
    | some v =>
      refine wpAny_bind (wpAny_mono h₁ (fun _ s₁' h₁' => ?_) fun _ _ h' => h'.elim)
      refine wpAny_bind (wpAny_mono h₁' (fun _ s₂ h₂ => wpAny_bind (wpAny_mono h₂ (fun ok s₃ h₃ => ?_) fun _ _ h' => h'.elim)) fun _ _ h' => h'.elim)
      cases ok with
      | false => exact wpAny_pure ⟨rfl, h₃⟩
      | true =>
        rw [hx] at h₃
        refine wpAny_bind (wpAny_mono h₃ (fun x s₄ h₄ => ?_) fun _ _ h' => h'.elim)
        refine wpAny_bind (wpAny_standAt (wpAny_bind (wpAny_of_eq (hfs x) (wpAny_bind (wpAny_holding (wpAny_mono h₄ (fun it' s₅ h₅ => ?_) fun _ _ h' => h'.elim))))))
        refine wpAny_bind (wpAny_runOwn (codeAny_mono h₅ fun r s₆ h₆ => ?_))
        cases r with
        | ok f => exact wpAny_pure ⟨rfl, h₆⟩
        | error e => exact h₆.elim
theorem compStart_any {elt target iter : Expr} {gens : List Comprehension} {ifs : List Expr} {scope : Scope} {pos : Pos} {d : Nat} {it acc : Value} {env : Env} (hg : gens[d]? = some ⟨target, iter, ifs, 0⟩)
    (h0 : codeAny (model prog w) A (.compLoop (.ListComp elt gens scope pos) d it acc env) R s)
    (h : wpAny (model prog w) A (pyIter it) (fun it' s' => codeAny (model prog w) A (.compLoop (.ListComp elt gens scope pos) d it' acc env) R s')
      (notedBy (model prog w) A env fun x s' => R (.error x) s') s) :
    codeAny (model prog w) A (.compStart (.ListComp elt gens scope pos) d it acc env) R s := by
  refine codeAny_of_tree ?_
  show wpAny _ _ ((compStart (.ListComp elt gens scope pos) d it acc env).onRaise (fun x => do noteFrame x env; standAt theWindowsPlace)) _ _ s
  refine wpAny_notedAt ?_
  unfold compStart
  have hcl : (clausesOf (.ListComp elt gens scope pos))[d]? = some ⟨target, iter, ifs, 0⟩ := hg
  simp only [hcl]
  show wpAny _ _ (ask >>= _) _ _ s
  refine wpAny_bind (wpAny_askSetting (wpAny_ite ?_))
  split
  · first
      | exact wpAny_bind (wpAny_pure (wpAny_pure (And.intro rfl h0)))
      | exact wpAny_pure (And.intro rfl h0)
  · first
      | exact wpAny_bind (wpAny_rule (wpAny_bind (wpAny_standAt (wpAny_bind (wpAny_mono h (fun it' s' h' => wpAny_pure (And.intro rfl h')) fun _ _ x => x)))))
      | (refine wpAny_bind (wpAny_rule ?_); show wpAny _ _ (standAt iter.pos >>= _) _ _ s; exact wpAny_bind (wpAny_standAt (wpAny_bind (wpAny_mono h (fun it' s' h' => wpAny_pure (And.intro rfl h')) fun _ _ x => x))))
end
end D
end
section
set_option Elab.async false
set_option linter.all false
set_option maxRecDepth 100000
set_option autoImplicit false
namespace D
open PySem PySem.Spec PyProof.Rows L2
def PB (X : L2.Cx) (e elt : Expr) (gens : List Comprehension) (d : Nat) (Δ : Addr) (t : L2.St → Hp → (L2.St → Hp → Prop) → Prop) : Prop :=
  ∀ (pins : List (Addr × Obj)) (s : Shared) (σ : L2.St) (H : Hp) (Q : L2.St → Hp → Prop), Inv X pins σ H s → t σ H Q →
    restWp X.prog X.w X.A e elt d (.ref Δ) X.env (fun s' => ∃ σ' H', Inv X pins σ' H' s' ∧ Q σ' H') gens[d + 1]? s
def SB (X : L2.Cx) (cl : Nat → Addr) (Δ : Addr) (ev : Loc → Mem → List W → R (List W × Loc)) : L2.St → Hp → (L2.St → Hp → Prop) → Prop := fun σ H Q =>
  ∃ β ρ m acc vs acc' ρ' m', Rel X.K cl β m H ∧ RL X.K β H ρ σ ∧ H Δ = some (.lst vs) ∧ Δ ∉ β ∧ RWs X.K β H acc vs ∧ ev ρ m acc = .ok (acc', ρ') m' ∧
    ∀ β' H' σ' vs', ExtD (some Δ) β H β' H' → Rel X.K cl β' m' H' → RL X.K β' H' ρ' σ' → H' Δ = some (.lst vs') → Δ ∉ β' → RWs X.K β' H' acc' vs' → Q σ' H'
section
variable {X : L2.Cx} {cl : Nat → Addr} {C : D.Cx} {e elt : Expr} {gens : List Comprehension} {d : Nat} {Δ : Addr}
theorem Ext.priv {β β' : List Addr} {H H' : Hp} {vs : List V} (x : Ext β H β' H') (hd : H Δ = some (.lst vs)) (hn : Δ ∉ β) : H' Δ = some (.lst vs) ∧ Δ ∉ β' := by
  refine ⟨x.keep hd hn (by simp), fun z => ?_⟩
  obtain ⟨γ, rfl, hγ⟩ := x.pre
  rcases List.mem_append.mp z with z | z
  · exact hn z
  · rw [hγ _ z] at hd; cases hd
theorem isL {H : Hp} {vs : List V} (hd : H Δ = some (.lst vs)) : ∀ d, some Δ = some d → ∃ vs, H d = some (.lst vs) := fun d z => by cases z; exact ⟨_, hd⟩
theorem isNN {H : Hp} {vs : List V} (hd : H Δ = some (.lst vs)) : ∀ d, some Δ = some d → H d ≠ none := fun d z => by cases z; rw [hd]; exact fun z => nomatch z
theorem b_last {de : E} (hx : X.xe = fun _ _ => False) (hn : gens[d + 1]? = none) (he : PE X elt (SE X cl (evE C de))) : PB X e elt gens d Δ (SB X cl Δ (evG C (.elt de))) := by
  intro pins s σ H Q I h
  obtain ⟨β, ρ, m, acc, vs, acc', ρ', m', r, l, hd, nd, q, ev, k⟩ := h
  simp only [evG] at ev
  obtain ⟨w, m1, e1, ev⟩ := R.bind_ok ev
  split at ev
  · rename_i hl
    cases ev
    rw [hn]
    have go := he pins s σ H (fun v H1 => ∃ β1, Ext β H β1 H1 ∧ Rel X.K cl β1 m' H1 ∧ RW X.K β1 H1 w v) I ⟨β, ρ, m, w, m', r, l, e1, fun β1 H1 v1 x1 r1 q1 => ⟨β1, x1, r1, q1⟩⟩
    rw [hx] at go
    refine wpAny_mono go (fun u s1 ⟨v, H1, I1, rv, β1, x1, r1, q1⟩ => ?_) fun _ _ z => z
    obtain ⟨hd1, nd1⟩ := x1.priv hd nd
    have hlen : vs.length < sizeLine := Nat.lt_of_lt_of_le (by rw [← q.length]; exact hl) lim_line
    have ap := mt_append (X := X) pins s1 σ H1 (.ref Δ) [v] (.ref Δ) [u] (fun _ H' => H' = upd H1 Δ (.lst (vs ++ [v]))) I1 rfl (.cons rv .nil) ⟨_, vs, v, rfl, rfl, hd1, hlen, rfl⟩
    rw [hx] at ap
    refine wpAny_mono ap (fun _ s2 ⟨_, H2, I2, _, e2⟩ => ?_) fun _ _ z => z
    subst e2
    obtain ⟨x2, r2⟩ := r1.priv (vs' := vs ++ [v]) hd1 nd1
    refine ⟨σ, _, I2, k β1 _ σ (vs ++ [v]) (x1.toD.trans r1 x2 (isNN hd1)) r2 ((l.mono r x1).monoD r1 (isL hd1) x2) upd_same nd1 ?_⟩
    exact ((q.mono r x1).monoD r1 (isL hd1) x2).append (.cons (q1.monoD r1 (isL hd1) x2) .nil)
  · cases ev
theorem loop_sim {scope : Scope} {pos : Pos} {tg iter : Expr} {ifs : List Expr} {t : T} {di : Es} {rest : G} {J : It} {fp : List Addr} {it : Addr} {tn : Nat → Heap → Prop} {src : Src} {β0 : List Addr} {H0 : Hp}
    (hx : X.xe = fun _ _ => False) (hc : X.calm = true) (hg : gens[d]? = some ⟨tg, iter, ifs, 0⟩) (hn : ∀ g', gens[d + 1]? = some g' → g'.is_async = 0 ∧ ∀ x, foldedSetIterable g'.iter X.env x = pure x)
    (Tu : Turn X.prog X.w X.K tg J fp it tn) (is : IS X cl J src β0 H0) (pg : PG X tg (SG X cl (evA C (.pt t)))) (pif : PIfs X ifs (ST X cl (evIfs C di))) (pb : PB X (.ListComp elt gens scope pos) elt gens d Δ (SB X cl Δ (evG C rest)))
    {pins : List (Addr × Obj)} {s : Shared} {σ : L2.St} {H : Hp} {β : List Addr} {ρ ρ' : Loc} {m m' : Mem} {acc acc' : List W} {vs : List V} {n : Nat} (I : Inv X pins σ H s) (st : tn 0 s.heap) (fpok : ∀ b ∈ fp, FpOk X pins H b)
    (hpre : ∃ γ, β = β0 ++ γ) (htup : ∀ {a : Addr} {vs : List V}, SqT X.K H0 a vs → SqT X.K H a vs) (hfz : ∀ {a : Addr} {vs : List V}, SqF X.K H0 a vs → SqF X.K H a vs) (r : Rel X.K cl β m H) (l : RL X.K β H ρ σ) (hd : H Δ = some (.lst vs)) (nd : Δ ∉ β) (q : RWs X.K β H acc vs)
    (ev : compN src.get t (fun ρ m => evIfs C di ρ m) (fun ρ m acc => evG C rest ρ m acc) n 0 ρ m acc = .ok (acc', ρ') m') {Rr : Result → Shared → Prop}
    (fin : ∀ s' σ' H' β' vs', Inv X pins σ' H' s' → ExtD (some Δ) β H β' H' → Rel X.K cl β' m' H' → RL X.K β' H' ρ' σ' → H' Δ = some (.lst vs') → Δ ∉ β' → RWs X.K β' H' acc' vs' → Rr (.ok .next) s') :
    codeAny (model X.prog X.w) X.A (.compLoop (.ListComp elt gens scope pos) d (.ref it) (.ref Δ) X.env) Rr s := by
  have stat : ∀ {H' : Hp}, (∀ b ∈ fp, H' b = none) → ∀ b ∈ fp, FpOk X pins H' b := fun hn b hb => ⟨hn b hb, (fpok b hb).2⟩
  refine compLoop_any hg hn (fun n s' => ∃ i σ' H' β' ρ1 m1 acc1 vs1, Inv X pins σ' H' s' ∧ tn i s'.heap ∧ (∀ b ∈ fp, H' b = none) ∧ ExtD (some Δ) β H β' H' ∧ Rel X.K cl β' m1 H' ∧ RL X.K β' H' ρ1 σ' ∧ H' Δ = some (.lst vs1) ∧ Δ ∉ β' ∧ RWs X.K β' H' acc1 vs1 ∧
    compN src.get t (fun ρ m => evIfs C di ρ m) (fun ρ m acc => evG C rest ρ m acc) n i ρ1 m1 acc1 = .ok (acc', ρ') m') ?_ n ⟨0, σ, H, β, ρ, m, acc, vs, I, st, fun b hb => (fpok b hb).1, Ext.refl, r, l, hd, nd, q, ev⟩
  rintro n s1 ⟨i, σ1, H1, β1, ρ1, m1, acc1, vs1, I1, st1, fr1, x1, r1, l1, hd1, nd1, q1, e1⟩
  have pre1 : ∃ γ, β1 = β0 ++ γ := by
    obtain ⟨γ, h1, _⟩ := x1.pre
    obtain ⟨δ, h2⟩ := hpre
    exact ⟨δ ++ γ, by rw [h1, h2, List.append_assoc]⟩
  obtain ⟨go, stop⟩ := is β1 m1 H1 i pre1 (fun h => x1.sqT r (isL hd) (htup h)) (fun h => x1.sqF r (isL hd) (hfz h)) r1
  unfold compN at e1
  split at e1
  · cases e1
  · rename_i e2
    cases e1
    refine wpAny_mono (Tu.done X rfl rfl rfl hc i pins s1 σ1 H1 (fun _ _ => False) I1 (stat fr1) st1 (stop e2)) (fun rr s2 ⟨hr, I2⟩ => ?_) fun _ _ z => z
    subst hr
    exact fin s2 σ1 H1 β1 vs1 I2 x1 r1 l1 hd1 nd1 q1
  · rename_i w e2
    obtain ⟨g1, g2⟩ := go w e2
    split at e1
    · cases e1
    · rename_i n'
      split at e1
      · cases e1
      · rename_i ρ2 e3
        obtain ⟨b, m3, e4, e5⟩ := R.bind_ok e1
        refine wpAny_mono (Tu.item X rfl rfl rfl hc i pins s1 σ1 H1 (fun _ _ => False) I1 (stat fr1) st1 g1) (fun rr s2 ⟨u, hr, h2⟩ => ?_) fun _ _ z => z
        subst hr
        refine wpAny_mono h2 (fun _ s3 ⟨x, H3, I3, r3, y3, st3, fr3⟩ => ?_) fun _ _ z => z
        obtain ⟨x3, rr3, q3⟩ := g2 x H3 y3
        obtain ⟨hd3, nd3⟩ := x3.priv hd1 nd1
        have I3' := I3.pinned (stat fr3) (Tu.obj _ _ st3)
        have l3 := l1.mono r1 x3
        have go4 := pg _ s3 σ1 H3 x u (fun σ4 H4 => ∃ β4, Ext β1 H3 β4 H4 ∧ Rel X.K cl β4 m1 H4 ∧ RL X.K β4 H4 ρ2 σ4) I3' r3 ⟨β1, ρ1, m1, w, ρ2, m1, rr3, l3, q3, by simp only [evA, e3], fun β4 H4 σ4 x4 r4 l4 => ⟨β4, x4, r4, l4⟩⟩
        rw [hx] at go4
        refine wpAny_mono go4 (fun _ s4 ⟨σ4, H4, I4, β4, x4, r4, l4⟩ => ?_) fun _ _ z => z
        obtain ⟨hd4, nd4⟩ := x4.priv hd3 nd3
        have go5 := pif _ s4 σ4 H4 (fun bb H5 => bb = b ∧ ∃ β5, Ext β4 H4 β5 H5 ∧ Rel X.K cl β5 m3 H5) I4 ⟨β4, ρ2, m1, b, m3, r4, l4, e4, fun β5 H5 x5 r5 => ⟨rfl, β5, x5, r5⟩⟩
        rw [hx] at go5
        refine wpAny_mono go5 (fun bb s5 ⟨H5, I5, hb, β5, x5, r5⟩ => ?_) fun _ _ z => z
        subst hb
        obtain ⟨hd5, nd5⟩ := x5.priv hd4 nd4
        have l5 := l4.mono r4 x5
        have x15 : Ext β1 H1 β5 H5 := (x3.trans rr3 x4).trans r4 x5
        have x05 : ExtD (some Δ) β H β5 H5 := x1.trans r1 x15.toD (isNN hd1)
        have q5 := q1.mono r1 x15
        have again : ∀ {σ' : L2.St} {H' : Hp} {s' : Shared} {β' : List Addr} {ρ4 : Loc} {m4 : Mem} {acc4 : List W} {vs4 : List V}, Inv X (pins ++ pinsAt fp s3.heap) σ' H' s' → ExtD (some Δ) β H β' H' → Rel X.K cl β' m4 H' → RL X.K β' H' ρ4 σ' → H' Δ = some (.lst vs4) → Δ ∉ β' → RWs X.K β' H' acc4 vs4 →
            compN src.get t (fun ρ m => evIfs C di ρ m) (fun ρ m acc => evG C rest ρ m acc) n' (i + 1) ρ4 m4 acc4 = .ok (acc', ρ') m' →
            ∃ mm, mm < n' + 1 ∧ ∃ i σ' H' β' ρ1 m1 acc1 vs1, Inv X pins σ' H' s' ∧ tn i s'.heap ∧ (∀ b ∈ fp, H' b = none) ∧ ExtD (some Δ) β H β' H' ∧ Rel X.K cl β' m1 H' ∧ RL X.K β' H' ρ1 σ' ∧ H' Δ = some (.lst vs1) ∧ Δ ∉ β' ∧ RWs X.K β' H' acc1 vs1 ∧
              compN src.get t (fun ρ m => evIfs C di ρ m) (fun ρ m acc => evG C rest ρ m acc) mm i ρ1 m1 acc1 = .ok (acc', ρ') m' := fun {σ' H' s' β' ρ4 m4 acc4 vs4} I' x' r' l' hd' nd' q' e' => by
          refine ⟨n', Nat.lt_succ_self _, i + 1, σ', H', β', ρ4, m4, acc4, vs4, I'.unpinned, Tu.keep _ _ _ st3 fun b hb o eo => (I'.pin (b, o) (List.mem_append_right _ (List.mem_append_right _ (mem_pinsAt hb eo)))).1, fun b hb => ?_, x', r', l', hd', nd', q', e'⟩
          obtain ⟨o, eo, _⟩ := Tu.obj _ _ st3 b hb
          exact (I'.pin (b, o) (List.mem_append_right _ (List.mem_append_right _ (mem_pinsAt hb eo)))).2.1
        cases bb with
        | false => exact again I5 x05 r5 l5 hd5 nd5 q5 e5
        | true =>
          simp only [if_true] at e5 ⊢
          obtain ⟨p, m6, e6, e7⟩ := R.bind_ok e5
          obtain ⟨acc6, ρ6⟩ := p
          have go6 := pb _ s5 σ4 H5 (fun σ6 H6 => ∃ β6 vs6, ExtD (some Δ) β5 H5 β6 H6 ∧ Rel X.K cl β6 m6 H6 ∧ RL X.K β6 H6 ρ6 σ6 ∧ H6 Δ = some (.lst vs6) ∧ Δ ∉ β6 ∧ RWs X.K β6 H6 acc6 vs6) I5 ⟨β5, ρ2, m3, acc1, vs1, acc6, ρ6, m6, r5, l5, hd5, nd5, q5, e6, fun β6 H6 σ6 vs6 x6 r6 l6 hd6 nd6 q6 => ⟨β6, vs6, x6, r6, l6, hd6, nd6, q6⟩⟩
          have mono : ∀ {Q Q' : Shared → Prop} {o : Option Comprehension} {s : Shared}, (∀ s, Q s → Q' s) → restWp X.prog X.w X.A (.ListComp elt gens scope pos) elt d (.ref Δ) X.env Q o s → restWp X.prog X.w X.A (.ListComp elt gens scope pos) elt d (.ref Δ) X.env Q' o s := by
            intro Q Q' o s hq h
            cases o with
            | none => exact wpAny_mono h (fun _ _ h => wpAny_mono h (fun _ s z => hq s z) fun _ _ z => z) fun _ _ z => z
            | some g => exact wpAny_mono h (fun _ _ h => wpAny_mono h (fun _ s z => codeAny_mono z fun rr s' z' => by
                cases rr with
                | ok f => exact hq _ z'
                | error e => exact z') fun _ _ z => z) fun _ _ z => z
          refine mono (fun s6 ⟨σ6, H6, I6, β6, vs6, x6, r6, l6, hd6, nd6, q6⟩ => ?_) go6
          exact again I6 (x05.trans r5 x6 (isNN hd5)) r6 l6 hd6 nd6 q6 e7
theorem b_gen {scope : Scope} {pos : Pos} {tg iter : Expr} {ifs : List Expr} {t : T} {dit : E} {di : Es} {rest : G} (hx : X.xe = fun _ _ => False) (hc : X.calm = true) (hg : gens[d + 1]? = some ⟨tg, iter, ifs, 0⟩) (hn : ∀ g', gens[d + 1 + 1]? = some g' → g'.is_async = 0 ∧ ∀ x, foldedSetIterable g'.iter X.env x = pure x)
    (hi : PI X tg iter (SI X cl (evI C dit))) (pg : PG X tg (SG X cl (evA C (.pt t)))) (pif : PIfs X ifs (ST X cl (evIfs C di))) (pb : PB X (.ListComp elt gens scope pos) elt gens (d + 1) Δ (SB X cl Δ (evG C rest))) :
    PB X (.ListComp elt gens scope pos) elt gens d Δ (SB X cl Δ (evG C (.gen t [] dit di rest))) := by
  intro pins s σ H Q I h
  obtain ⟨β, ρ, m, acc, vs, acc', ρ', m', r, l, hd, nd, q, ev, k⟩ := h
  simp only [evG, clr] at ev
  obtain ⟨src, m1, e1, ev⟩ := R.bind_ok ev
  rw [hg]
  have go := hi pins s σ H (fun J H1 => ∃ β1, Ext β H β1 H1 ∧ Rel X.K cl β1 m1 H1 ∧ IS X cl J src β1 H1) I ⟨β, ρ, m, src, m1, r, l, e1, fun β1 H1 J x1 r1 is => ⟨β1, x1, r1, is⟩⟩
  rw [hx] at go
  refine wpAny_mono go (fun v s1 h1 => wpAny_mono h1 (fun itv s2 h2 => ?_) fun _ _ z => z) fun _ _ z => z
  obtain ⟨it, fp, tn, J, H1, e2, I1, Tu, st, fpok, β1, x1, r1, is⟩ := h2
  subst e2
  obtain ⟨hd1, nd1⟩ := x1.priv hd nd
  have loop : codeAny (model X.prog X.w) X.A (.compLoop (.ListComp elt gens scope pos) (d + 1) (.ref it) (.ref Δ) X.env) (fun rr s₆ => match rr with
      | .ok _ => ∃ σ' H', Inv X pins σ' H' s₆ ∧ Q σ' H'
      | .error _ => False) s2 :=
    loop_sim hx hc hg hn Tu is pg pif pb I1 st fpok ⟨[], by simp⟩ (fun h => h) (fun h => h) r1 (l.mono r x1) hd1 nd1 (q.mono r x1) ev fun s' σ' H' β' vs' I' x' r' l' hd' nd' q' => ⟨σ', H', I', k β' H' σ' vs' (x1.toD.trans r1 x' (isNN hd1)) r' l' hd' nd' q'⟩
  exact compStart_any hg loop (Tu.self _ 0 _ _ _ st loop)
theorem RL.clr {K : PySem.W.Frag} {β : List Addr} {H : Hp} : ∀ {js : List Nat} {ρ : Loc} {σ : L2.St}, RL K β H ρ σ → RL K β H (D.clr js ρ) (L2.clr js σ)
  | [], _, _, l => l
  | j :: js, ρ, σ, l => by
    refine RL.clr (js := js) ⟨by simp [l.len], fun {i w} h => ?_⟩
    by_cases e : j = i
    · subst e
      rw [List.getElem?_set] at h
      rw [if_pos rfl] at h
      split at h <;> cases h
    · rw [List.getElem?_set_ne e] at h ⊢
      exact l.at_ h
theorem comp_any {scope : Scope} {pos : Pos} {js : List Nat} {tg iter : Expr} {ifs : List Expr} {t : T} {dit : E} {di : Es} {rest : G} (hc : X.calm = true) (ok : CompOk X.N js scope X.env.scope) (hg : gens[0]? = some ⟨tg, iter, ifs, 0⟩) (hn : ∀ g', gens[1]? = some g' → g'.is_async = 0 ∧ ∀ env x, foldedSetIterable g'.iter env x = pure x)
    (hi : PI X tg iter (SI X cl (evI C dit))) (pg : ∀ cl' s₀ H₀ fp pn, PG (X.comp scope cl' s₀ H₀ fp pn) tg (SG (X.comp scope cl' s₀ H₀ fp pn) cl (evA C (.pt t)))) (pif : ∀ cl' s₀ H₀ fp pn, PIfs (X.comp scope cl' s₀ H₀ fp pn) ifs (ST (X.comp scope cl' s₀ H₀ fp pn) cl (evIfs C di)))
    (pb : ∀ cl' s₀ H₀ fp pn Δ, PB (X.comp scope cl' s₀ H₀ fp pn) (.ListComp elt gens scope pos) elt gens 0 Δ (SB (X.comp scope cl' s₀ H₀ fp pn) cl Δ (evG C rest)))
    (hs : ∀ x, foldedSetIterable iter X.env x = pure x) {pins : List (Addr × Obj)} {s : Shared} {σ : L2.St} {H : Hp} {Q : VK} (I : Inv X pins σ H s) (h : SE X cl (evE C (.comp (.gen t js dit di rest))) σ H Q) {p : Pos} {use : Option (Value → Sem Unit)} {Q' : Value → Shared → Prop}
    (fin : ∀ (D Cf : Addr) (s' : Shared) (H' : Hp), (∀ h', (∀ b o, b ≠ Cf → s'.heap.get? b = some o → h'.get? b = some o) → Inv X pins σ H' { s' with heap := h' }) → Q (.ref D) H' → (∃ m, s'.heap.Ns Cf m) → H' Cf = none → Cf ≠ X.env.locals → X.s₀.heap.objs.size ≤ Cf → (∀ x c, X.env.cells.lookup x = some c → c ≠ Cf) → (∀ p ∈ X.pn ++ pins, p.1 ≠ Cf) →
      compPost (model X.prog X.w) X.A X.xe use Q' (.ref D) Cf (.ok .next) s') :
    wpAny (model X.prog X.w) X.A (comprehension (.ListComp elt gens scope pos) scope X.env p (newList []) false (eval iter X.env) use) Q' X.xe s := by
  obtain ⟨β, ρ, m, w, m', r, l, e, k⟩ := h
  simp only [evE] at e
  obtain ⟨⟨ws, ρ9⟩, m9, e8, e9⟩ := R.bind_ok e
  cases e9
  clear e
  simp only [evG] at e8
  obtain ⟨src, m1, e1, e⟩ := R.bind_ok e8
  clear e8
  have hgs : ∃ gs, gens = ⟨tg, iter, ifs, 0⟩ :: gs := by
    cases gens with
    | nil => simp at hg
    | cons g gs => simp at hg; exact ⟨gs, by rw [hg]⟩
  obtain ⟨gs, rfl⟩ := hgs
  have hclos : closureFor scope X.env = pure (closL X.env scope.names []) := closureFor_eq fun y hy hk => I.ok.has y.1 (ok.free y hy hk)
  refine wpAny_comprehension_free rfl hs hclos ok.kind ok.loc (thn (hi pins s σ H (fun J H1 => ∃ β1, Ext β H β1 H1 ∧ Rel X.K cl β1 m1 H1 ∧ IS X cl J src β1 H1) I ⟨β, ρ, m, src, m1, r, l, e1, fun β1 H1 J x1 r1 is => ⟨β1, x1, r1, is⟩⟩) fun v s1 h1 => thn h1 fun itv s2 h2 => ?_)
  obtain ⟨it, fp, tn, J, H2, e2, I2, Tu, st2, f2, β2, x2, r2, is⟩ := h2
  subst e2
  have hD2 : H2 s2.heap.objs.size = none := I2.fresh
  refine wpAny_newObj_type ?_
  have I3 : Inv X pins σ (upd H2 s2.heap.objs.size (.lst [])) { s2 with heap := s2.heap.push { cls := .type "list", dict := none, data := .seq ([] : List Value).toArray } } :=
    I2.lnew (its := []) (t' := s2.toks) .nil (Nat.zero_le _)
  generalize hs3 : ({ s2 with heap := s2.heap.push { cls := .type "list", dict := none, data := .seq ([] : List Value).toArray } } : Shared) = s3 at I3 ⊢
  have keep3 : ∀ b o, s2.heap.get? b = some o → s3.heap.get? b = some o := fun b o e => by rw [← hs3]; exact Heap.get?_push_of_some _ e
  have hfp2 : ∀ b ∈ fp, b < s2.heap.objs.size := fun b hb => by
    obtain ⟨o, e, _⟩ := Tu.obj _ _ st2 b hb
    exact Heap.lt_size e
  have hsz3 : s3.heap.objs.size = s2.heap.objs.size + 1 := by rw [← hs3]; exact Heap.size_push _ _
  have f3 : ∀ b ∈ fp, FpOk X pins (upd H2 s2.heap.objs.size (.lst [])) b := fun b hb => ⟨by rw [upd_ne (Nat.ne_of_lt (hfp2 b hb))]; exact (f2 b hb).1, (f2 b hb).2⟩
  refine wpAny_newFunctionEnv ok.nocell (by intro y hy; simp at hy) (fun h₁ hns₁ hsb₁ => ?_) ok.kind
  have old : ∀ b o, s3.heap.get? b = some o → h₁.get? b = some o := fun b o e => hsb₁.extBut b o (Nat.ne_of_lt (Heap.lt_size e)) (Heap.get?_push_of_some _ e)
  have I4 : Inv (X.comp scope (closL X.env scope.names []) s3 (upd H2 s2.heap.objs.size (.lst [])) fp pins) [] (L2.clr js σ) (upd H2 s2.heap.objs.size (.lst [])) { s3 with heap := h₁, toks := s3.toks + ([] : List (Str × Value)).length } :=
    I3.comp ok f3 (fun b hb => by rw [hsz3]; exact Nat.lt_succ_of_lt (hfp2 b hb)) hns₁ old (fun x => rfl)
  have st4 : tn 0 h₁ := Tu.keep _ _ _ st2 fun b hb o e => old _ _ (keep3 _ _ e)
  have stat : ∀ {H' : Hp}, (∀ b ∈ fp, H' b = none) → ∀ b ∈ fp, FpOk (X.comp scope (closL X.env scope.names []) s3 (upd H2 s2.heap.objs.size (.lst [])) fp pins) [] H' b := fun {H'} hn b hb => by
    refine ⟨hn b hb, ?_, fun z => ?_, .inl hb, fun x c e => ?_, fun p hp => ?_⟩
    · show b ≠ s3.heap.objs.size
      exact Nat.ne_of_lt (by rw [hsz3]; exact Nat.lt_succ_of_lt (hfp2 b hb))
    · rcases List.mem_cons.mp (I3.stkSub b z) with q | q
      · exact (f2 b hb).2.1 q
      · exact (f2 b hb).2.2.1 q
    · exact (f2 b hb).2.2.2.2.1 x c (closL_sub _ _ (by simp) e)
    · exact (f2 b hb).2.2.2.2.2 p (by simpa using hp)
  have x3 : Ext β2 H2 β2 (upd H2 s2.heap.objs.size (.lst [])) := ⟨⟨[], by simp, by simp⟩, fun h _ _ => by rw [upd_ne (ne_of_none h hD2)]; exact h⟩
  have r3 : Rel X.K cl β2 m1 (upd H2 s2.heap.objs.size (.lst [])) := ⟨r2.len, r2.nd, fun h1 h2 => by
    have q := r2.obj h1 h2
    obtain ⟨u, e, _⟩ := q.ex
    exact q.mono r2 x3 (upd_ne (ne_of_none e hD2))⟩
  have l3 : RL X.K β2 (upd H2 s2.heap.objs.size (.lst [])) (D.clr js ρ) (L2.clr js σ) := ((l.mono r x2).mono r2 x3).clr
  have nD : s2.heap.objs.size ∉ β2 := r2.nin hD2
  have hD : H s2.heap.objs.size = none := by
    cases z : H s2.heap.objs.size with
    | none => rfl
    | some o =>
      by_cases hb : s2.heap.objs.size ∈ β
      · obtain ⟨γ, hγ, _⟩ := x2.pre
        exact absurd (by rw [hγ]; exact List.mem_append_left _ hb) nD
      · have := x2.keep z hb (by simp)
        rw [hD2] at this; cases this
  have loop : ∀ s₄ : Shared, s₄ = { s3 with heap := h₁, toks := s3.toks + ([] : List (Str × Value)).length } →
      codeAny (model X.prog X.w) X.A (.compLoop (.ListComp elt (⟨tg, iter, ifs, 0⟩ :: gs) scope pos) 0 (.ref it) (.ref s2.heap.objs.size) (compEnvC scope (closL X.env scope.names []) s3.heap.objs.size X.env))
        (compPost (model X.prog X.w) X.A X.xe use Q' (.ref s2.heap.objs.size) s3.heap.objs.size) s₄ := by
    intro s₄ e₄
    subst e₄
    refine loop_sim (X := X.comp scope (closL X.env scope.names []) s3 (upd H2 s2.heap.objs.size (.lst [])) fp pins) (cl := cl) (C := C) (Δ := s2.heap.objs.size) rfl hc rfl (fun g' hg' => ⟨(hn g' hg').1, (hn g' hg').2 _⟩) Tu is (pg _ _ _ _ _) (pif _ _ _ _ _) (pb _ _ _ _ _ _)
      I4 st4 (stat fun b hb => (f3 b hb).1) ⟨[], by simp⟩ (fun h => x3.sqT r2 noD h) (fun h => x3.sqF r2 noD h) r3 l3 upd_same nD .nil e ?_
    intro s' σ' H' β' vs' I' x' r' l' hd' nd' q'
    obtain ⟨m6, hm6, _⟩ := id I'.loc
    have rout := r'.out hd' nd' q'
    have xout : Ext β H (β' ++ [s2.heap.objs.size]) H' := by
      obtain ⟨γ, hγ, fγ⟩ := x2.pre
      obtain ⟨δ, hδ, fδ⟩ := x'.pre
      refine ⟨⟨γ ++ δ ++ [s2.heap.objs.size], by rw [hδ, hγ]; simp, fun a ha => ?_⟩, fun {a o} h hb _ => ?_⟩
      · rcases List.mem_append.mp ha with ha | ha
        · rcases List.mem_append.mp ha with ha | ha
          · exact fγ a ha
          · have z3 := fδ a ha
            have na : a ≠ s2.heap.objs.size := by
              rintro rfl
              rw [upd_same] at z3; cases z3
            rw [upd_ne na] at z3
            cases z : H a with
            | none => rfl
            | some o =>
              by_cases hb : a ∈ β
              · obtain ⟨u, eu, _⟩ := r2.ex (a := a) (by rw [hγ]; exact List.mem_append_left _ hb)
                rw [z3] at eu; cases eu
              · have := x2.keep z hb (by simp)
                rw [z3] at this; cases this
        · simp at ha; rw [ha]; exact hD
      · have h2 := x2.keep h hb (by simp)
        have na : a ≠ s2.heap.objs.size := ne_of_none h hD
        have nb : a ∉ β2 := fun z => by
          rw [hγ] at z
          rcases List.mem_append.mp z with z | z
          · exact hb z
          · rw [fγ a z] at h; cases h
        exact x'.keep (by rw [upd_ne na]; exact h2) nb (by simpa using na)
    have qout : Q (.ref s2.heap.objs.size) H' := k _ _ _ xout rout (.ref (r'.last _))
    refine fin _ _ s' H' (fun h' hk => I3.uncomp f3 I' hk) qout ⟨m6, hm6⟩ I'.free (Nat.ne_of_gt (Nat.lt_of_lt_of_le I3.lt (Nat.le_refl _))) I3.sz (fun x c e => ?_) (fun p hp => Nat.ne_of_lt (Heap.lt_size (I3.pin p hp).1))
    obtain ⟨v, o, q, _⟩ := I3.cell x c e
    exact Nat.ne_of_lt (Heap.lt_size q)
  exact compStart_any rfl (loop _ rfl) (Tu.self _ 0 _ _ _ st4 (loop _ rfl))
variable {scope : Scope} {pos : Pos} {js : List Nat} {tg iter : Expr} {ifs : List Expr} {t : T} {dit : E} {di : Es} {rest : G}
theorem s_comp (hc : X.calm = true) (ok : CompOk X.N js scope X.env.scope) (hg : gens[0]? = some ⟨tg, iter, ifs, 0⟩) (hn : ∀ g', gens[1]? = some g' → g'.is_async = 0 ∧ ∀ env x, foldedSetIterable g'.iter env x = pure x)
    (hi : PI X tg iter (SI X cl (evI C dit))) (pg : ∀ cl' s₀ H₀ fp pn, PG (X.comp scope cl' s₀ H₀ fp pn) tg (SG (X.comp scope cl' s₀ H₀ fp pn) cl (evA C (.pt t)))) (pif : ∀ cl' s₀ H₀ fp pn, PIfs (X.comp scope cl' s₀ H₀ fp pn) ifs (ST (X.comp scope cl' s₀ H₀ fp pn) cl (evIfs C di)))
    (pb : ∀ cl' s₀ H₀ fp pn Δ, PB (X.comp scope cl' s₀ H₀ fp pn) (.ListComp elt gens scope pos) elt gens 0 Δ (SB (X.comp scope cl' s₀ H₀ fp pn) cl Δ (evG C rest)))
    (hs : ∀ x, foldedSetIterable iter X.env x = pure x) {pp : Pos} (hev : eval (.ListComp elt gens scope pos) X.env = comprehension (.ListComp elt gens scope pos) scope X.env pp (newList []) false (eval iter X.env) none) : PE X (.ListComp elt gens scope pos) (SE X cl (evE C (.comp (.gen t js dit di rest)))) := by
  intro pins s σ H Q I h
  rw [hev]
  refine comp_any hc ok hg hn hi pg pif pb hs I h ?_
  intro D Cf s' H' hI q hm hn h1 h2 h3 h4
  obtain ⟨m, hm⟩ := hm
  exact ⟨m, hm, fun h' hs' => ⟨.ref D, H', hI h' fun b o hb e => hs'.extBut b o hb e, rfl, q⟩⟩
theorem st_setC {i : Nat} {y : Str} {py spos : Pos} {gs : List Comprehension} (hc : X.calm = true) (hN : X.N.Nodup) (hy : X.N[i]? = some y) (hx : L2.Loc X.env.scope y) (ok : CompOk X.N js scope X.env.scope) (hn : ∀ g', gs[0]? = some g' → g'.is_async = 0 ∧ ∀ env x, foldedSetIterable g'.iter env x = pure x)
    (hi : PI X tg iter (SI X cl (evI C dit))) (pg : ∀ cl' s₀ H₀ fp pn, PG (X.comp scope cl' s₀ H₀ fp pn) tg (SG (X.comp scope cl' s₀ H₀ fp pn) cl (evA C (.pt t)))) (pif : ∀ cl' s₀ H₀ fp pn, PIfs (X.comp scope cl' s₀ H₀ fp pn) ifs (ST (X.comp scope cl' s₀ H₀ fp pn) cl (evIfs C di)))
    (pb : ∀ cl' s₀ H₀ fp pn Δ, PB (X.comp scope cl' s₀ H₀ fp pn) (.ListComp elt (⟨tg, iter, ifs, 0⟩ :: gs) scope pos) elt (⟨tg, iter, ifs, 0⟩ :: gs) 0 Δ (SB (X.comp scope cl' s₀ H₀ fp pn) cl Δ (evG C rest)))
    (hs : ∀ x, foldedSetIterable iter X.env x = pure x) (hsw : swapsWith (.ListComp elt (⟨tg, iter, ifs, 0⟩ :: gs) scope pos) (some (.Name y py)) spos.line X.env = pure true) (hf : X.fn y = true ∨ X.env.scope.names.lookup y = some .local) :
    PS X (.Assign [.Name y py] (.ListComp elt (⟨tg, iter, ifs, 0⟩ :: gs) scope pos) spos) (SS X cl (evS C (.asg (.pt (.var i)) (.comp (.gen t js dit di rest))))) := by
  intro pins s σ H D I h
  obtain ⟨β, ρ, m, f, m', r, l, e, k⟩ := h
  simp only [evS] at e
  obtain ⟨w, m1, e1, e⟩ := R.bind_ok e
  simp only [evA, bindT, R.bind] at e
  cases e
  have h : SE X cl (evE C (.comp (.gen t js dit di rest))) σ H (fun v H' => D.nx (σ.set i (some v)) H') := ⟨β, ρ, m, w, _, r, l, e1, fun β1 H1 v1 x1 r1 q1 => k _ _ x1 r1 _ ((l.mono r x1).set q1)⟩
  rw [exec_Assign_Name_used _ _ _ _ hsw]
  refine wpAny_bind (wpAny_standAt (wpAny_bind ?_))
  show wpAny _ X.A (do let _ ← comprehension (.ListComp elt (⟨tg, iter, ifs, 0⟩ :: gs) scope pos) scope X.env _ (newList []) false (eval iter X.env) (some (assign (.Name y py) X.env))) _ _ s
  refine wpAny_bind (wpAny_mono (comp_any (use := some (assign (.Name y py) X.env)) (Q' := fun _ s' => SP X pins D .next s') hc ok rfl (by simpa using hn) hi pg pif pb hs I h ?_) (fun _ s' hq => wpAny_pure (wpAny_pure hq)) fun _ _ e => e)
  intro Dl Cf s' H' hI q hm hn h1 h2 h3 h4
  obtain ⟨m, hm⟩ := hm
  have I' : Inv X pins σ H' s' := hI s'.heap fun b o _ e => e
  refine wpAny_assign_Name (store_ok2 I' hN hy hx (v := .ref Dl) (u := .ref Dl) rfl (fun s2 I2 hsb => ?_) hf)
  obtain ⟨a, sb, ha⟩ := hsb
  have hne : Cf ≠ a := by
    rcases ha with rfl | ha
    · exact h1
    · exact (h3 _ _ ha).symm
  refine ⟨m, hm.sameBut sb hne, fun h' hs' => ⟨_, H', ?_, q⟩⟩
  exact I2.turned (t' := s2.toks) (it := Cf) (fun b o hb e => hs'.extBut b o hb e) hn h1 (.inr h2) h3 h4
theorem ifs_nil : PIfs X [] (ST X cl (evIfs C .nil)) := by
  intro pins s σ H Q I h
  obtain ⟨β, ρ, m, b, m', r, l, e, k⟩ := h
  simp only [evIfs] at e
  cases e
  exact pifs_nil pins s σ H Q I (k _ _ Ext.refl r)
theorem ifs_one {a : Expr} {da : E} (ha : PT X a (ST X cl (evT C da))) : PIfs X [a] (ST X cl (evIfs C (.cons da .nil))) := by
  intro pins s σ H Q I h
  refine pifs_one ha pins s σ H Q I ?_
  obtain ⟨β, ρ, m, b, m', r, l, e, k⟩ := h
  simp only [evIfs] at e
  obtain ⟨c, m1, e1, e⟩ := R.bind_ok e
  refine ⟨β, ρ, m, c, m1, r, l, e1, fun β1 H1 x1 r1 => ?_⟩
  cases c with
  | true => simp only [if_true] at e; cases e; exact k _ _ x1 r1
  | false => simp only [Bool.false_eq_true, if_false] at e; cases e; exact k _ _ x1 r1
end
end D
end
section
set_option Elab.async false
set_option linter.all false
set_option maxRecDepth 100000
set_option autoImplicit false
namespace D
open PySem PySem.Spec PyProof.Rows L2
structure ZJ where
  k : Bool
  it : Addr
  l : Addr
  xs : Array Value
def ZJ.At (j : ZJ) (h : Heap) (i : Nat) : Prop := (j.k = true ∧ h.IsListIter j.it j.l i) ∨ (j.k = false ∧ h.IsTupleIter j.it j.l i)
def ZJ.Sq (j : ZJ) (h : Heap) : Prop := (j.k = true ∧ h.IsList j.l j.xs) ∨ (j.k = false ∧ h.IsTuple j.l j.xs)
theorem ZJ.At.keep {j : ZJ} {h h' : Heap} {i : Nat} (a : j.At h i) (k : ∀ o, h.get? j.it = some o → h'.get? j.it = some o) : j.At h' i := by
  rcases a with ⟨e, o, a, r⟩ | ⟨e, o, a, r⟩
  · exact .inl ⟨e, o, k o a, r⟩
  · exact .inr ⟨e, o, k o a, r⟩
theorem ZJ.Sq.keep {j : ZJ} {h h' : Heap} (a : j.Sq h) (k : ∀ o, h.get? j.l = some o → h'.get? j.l = some o) : j.Sq h' := by
  rcases a with ⟨e, o, a, r⟩ | ⟨e, o, a, r⟩
  · exact .inl ⟨e, o, k o a, r⟩
  · exact .inr ⟨e, o, k o a, r⟩
theorem ZJ.At.obj {j : ZJ} {h : Heap} {i : Nat} (a : j.At h i) : ∃ o, h.get? j.it = some o ∧ ∃ vs, o.data = .fields vs := by
  rcases a with ⟨e, o, a, _, r⟩ | ⟨e, o, a, _, r⟩ <;> exact ⟨o, a, _, r⟩
abbrev IsTO (h : Heap) (T : Addr) (a : Array Value) : Prop := h.get? T = some { cls := .type "tuple", data := .seq a }
section
variable {prog : Program} {w : World} {A : Around} {E : Value → Shared → Prop} {s : Shared}
theorem ZJ.next {j : ZJ} {i : Nat} {x : Value} {Q : Value → Shared → Prop} (a : j.At s.heap i) (b : j.Sq s.heap) (hx : j.xs[i]? = some x) (q : ∀ h', j.At h' (i + 1) → Heap.SameBut j.it s.heap h' → Q x { s with heap := h' }) : wpAny (model prog w) A (Builtin.SmallTypes.nextOf (.ref j.it)) Q E s := by
  rcases a with ⟨e, a⟩ | ⟨e, a⟩
  · rcases b with ⟨_, b⟩ | ⟨e', _⟩
    · exact wpAny_nextOf_list_item a b hx fun h' a' s' => q h' (.inl ⟨e, a'⟩) s'
    · rw [e] at e'; cases e'
  · rcases b with ⟨e', _⟩ | ⟨_, b⟩
    · rw [e] at e'; cases e'
    · exact nextT a b hx fun h' a' s' => q h' (.inr ⟨e, a'⟩) s'
theorem ZJ.stop {j : ZJ} {i : Nat} {Q : Value → Shared → Prop} (hh : A.handled = none) (a : j.At s.heap i) (b : j.Sq s.heap) (hx : j.xs[i]? = none)
    (hE : ∀ h' e, Heap.ExtBut j.it s.heap h' → (∃ o, h'.get? e = some o ∧ o.cls = .type "StopIteration") → E (.ref e) { s with heap := h' }) : wpAny (model prog w) A (Builtin.SmallTypes.nextOf (.ref j.it)) Q E s := by
  rcases a with ⟨e, a⟩ | ⟨e, a⟩
  · rcases b with ⟨_, b⟩ | ⟨e', _⟩
    · exact wpAny_nextOf_list_end hh a b hx hE
    · rw [e] at e'; cases e'
  · rcases b with ⟨e', _⟩ | ⟨_, b⟩
    · rw [e] at e'; cases e'
    · exact nextTend hh a b hx hE
def setAll (T : Array Value) : Nat → List Value → Array Value
  | _, [] => T
  | k, v :: vs => setAll (T.setIfInBounds k v) (k + 1) vs
theorem setAll_size : ∀ (vs : List Value) (T : Array Value) (k : Nat), (setAll T k vs).size = T.size
  | [], _, _ => rfl
  | v :: vs, T, k => by rw [setAll, setAll_size, Array.size_setIfInBounds]
theorem setAll_get : ∀ (vs : List Value) (T : Array Value) (k c : Nat), k + vs.length ≤ T.size → (setAll T k vs)[c]? = if k ≤ c ∧ c < k + vs.length then vs[c - k]? else T[c]?
  | [], T, k, c, h => by
    rw [if_neg (by intro q; simp only [List.length_nil] at q; omega)]; rfl
  | v :: vs, T, k, c, h => by
    simp only [List.length_cons] at h
    rw [setAll, setAll_get vs _ (k + 1) c (by rw [Array.size_setIfInBounds]; omega)]
    by_cases h1 : c = k
    · subst h1
      rw [if_neg (by omega), if_pos (by simp), Array.getElem?_setIfInBounds_self_of_lt (by omega)]
      simp
    · by_cases h2 : k + 1 ≤ c ∧ c < k + 1 + vs.length
      · rw [if_pos h2, if_pos (by simp; omega)]
        rw [show c - k = (c - (k + 1)) + 1 by omega, List.getElem?_cons_succ]
      · rw [if_neg h2, if_neg (by simp; omega), Array.getElem?_setIfInBounds_ne (by omega)]
theorem setAll_all {vs : List Value} {T : Array Value} (h : T.size = vs.length) : setAll T 0 vs = vs.toArray := by
  apply Array.ext_getElem?
  intro c
  rw [setAll_get vs T 0 c (by omega)]
  by_cases hc : c < vs.length
  · rw [if_pos (by omega)]; simp
  · rw [if_neg (by omega)]
    rw [Array.getElem?_eq_none (by omega), Array.getElem?_eq_none (by simp; omega)]
structure Apart (TO : Addr) (js : List ZJ) : Prop where
  its : (js.map (·.it)).Nodup
  toi : ∀ j ∈ js, j.it ≠ TO
  tol : ∀ j ∈ js, j.l ≠ TO
  il : ∀ j ∈ js, ∀ j' ∈ js, j.l ≠ j'.it
theorem Apart.tail {TO : Addr} {j : ZJ} {js : List ZJ} (a : Apart TO (j :: js)) : Apart TO js :=
  ⟨(List.nodup_cons.mp a.its).2, fun x hx => a.toi x (List.mem_cons_of_mem _ hx), fun x hx => a.tol x (List.mem_cons_of_mem _ hx), fun x hx y hy => a.il x (List.mem_cons_of_mem _ hx) y (List.mem_cons_of_mem _ hy)⟩
def ZBody (prog : Program) (w : World) (A : Around) (E : Value → Shared → Prop) (Eb : Value → Shared → Prop) (TO : Addr) {β : Type} (b0 : β) (body : Value × Nat → β → Sem (ForInStep β)) : Prop :=
  ∀ (it : Addr) (k : Nat) (s : Shared) (R' : ForInStep β → Shared → Prop), wpAny (model prog w) A (Builtin.SmallTypes.nextOf (.ref it)) (fun x s1 => ∃ T, IsTO s1.heap TO T ∧ T.size ≤ 100 ∧ ∀ h', IsTO h' TO (T.setIfInBounds k x) → Heap.SameBut TO s1.heap h' → R' (.yield b0) { s1 with heap := h' }) Eb s →
    wpAny (model prog w) A (body (.ref it, k) b0) R' E s
theorem zloop_items {β : Type} {b0 : β} {body : Value × Nat → β → Sem (ForInStep β)} {TO : Addr} {i : Nat} {Eb : Value → Shared → Prop} (hb : ZBody prog w A E Eb TO b0 body) {Q : β → Shared → Prop} : ∀ (js : List ZJ) (k : Nat) (s : Shared) (T : Array Value) (vs : List Value),
    Apart TO js → (∀ j ∈ js, j.At s.heap i ∧ j.Sq s.heap) → Paired (fun (j : ZJ) v => j.xs[i]? = some v) js vs → IsTO s.heap TO T → T.size ≤ 100 →
    (∀ h', (∀ j ∈ js, j.At h' (i + 1)) → IsTO h' TO (setAll T k vs) → h'.objs.size = s.heap.objs.size → (∀ c o, c ≠ TO → c ∉ js.map (·.it) → s.heap.get? c = some o → h'.get? c = some o) → Q b0 { s with heap := h' }) →
    wpAny (model prog w) A (forIn ((js.map fun j => Value.ref j.it).zipIdx k) b0 body) Q E s
  | [], k, s, T, vs, ap, hj, hv, hT, hz, q => by
    cases hv
    rw [List.map_nil, List.zipIdx_nil, List.forIn_nil]
    exact wpAny_pure (q s.heap (by simp) hT rfl fun c o _ _ e => e)
  | j :: js, k, s, T, vs, ap, hj, hv, hT, hz, q => by
    cases hv with
    | @cons _ v _ vs hx hv =>
      rw [List.map_cons, List.zipIdx_cons, List.forIn_cons]
      obtain ⟨a0, b0'⟩ := hj j List.mem_cons_self
      refine wpAny_bind (hb j.it k s _ (ZJ.next a0 b0' hx fun h1 a1 s1 => ⟨T, s1.extBut _ _ (ap.toi j List.mem_cons_self).symm hT, hz, fun h2 hT2 s2 => ?_⟩))
      have keep : ∀ c o, c ≠ TO → c ≠ j.it → s.heap.get? c = some o → h2.get? c = some o := fun c o n1 n2 e => s2.extBut c o n1 (s1.extBut c o n2 e)
      have nin : j.it ∉ js.map (·.it) := (List.nodup_cons.mp ap.its).1
      refine zloop_items hb js (k + 1) { s with heap := h2 } (T.setIfInBounds k v) vs ap.tail (fun j' hj' => ?_) hv hT2 (by rw [Array.size_setIfInBounds]; exact hz) fun h3 q1 q2 q3 q4 => ?_
      · obtain ⟨x1, x2⟩ := hj j' (List.mem_cons_of_mem _ hj')
        exact ⟨x1.keep fun o e => keep _ o (ap.toi j' (List.mem_cons_of_mem _ hj')) (fun z => nin (z ▸ List.mem_map_of_mem hj')) e, x2.keep fun o e => keep _ o (ap.tol j' (List.mem_cons_of_mem _ hj')) (ap.il j' (List.mem_cons_of_mem _ hj') j List.mem_cons_self) e⟩
      · refine q h3 (fun j' hj' => ?_) q2 (by rw [q3]; show h2.objs.size = _; rw [s2.1]; exact s1.1) fun c o n1 n2 e => q4 c o n1 (fun z => n2 (List.mem_cons_of_mem _ z)) (keep c o n1 (fun z => n2 (by rw [z]; exact List.mem_cons_self)) e)
        rcases List.mem_cons.mp hj' with rfl | hj'
        · exact a1.keep fun o e => q4 _ o (ap.toi j' List.mem_cons_self) nin (s2.extBut _ _ (ap.toi j' List.mem_cons_self) e)
        · exact q1 j' hj'
theorem zloop_stop {β : Type} {b0 : β} {body : Value × Nat → β → Sem (ForInStep β)} {TO : Addr} {i : Nat} {Eb : Value → Shared → Prop} (hh : A.handled = none) (hb : ZBody prog w A E Eb TO b0 body) {Q : β → Shared → Prop} : ∀ (pre : List ZJ) (j : ZJ) (post : List ZJ) (k : Nat) (s : Shared) (T : Array Value) (vs : List Value),
    Apart TO (pre ++ j :: post) → (∀ x ∈ pre ++ j :: post, x.At s.heap i ∧ x.Sq s.heap) → Paired (fun (j : ZJ) v => j.xs[i]? = some v) pre vs → j.xs[i]? = none → IsTO s.heap TO T → T.size ≤ 100 →
    (∀ h' e, (∀ c o, c ≠ TO → c ∉ (pre ++ j :: post).map (·.it) → s.heap.get? c = some o → h'.get? c = some o) → (∃ o, h'.get? e = some o ∧ o.cls = .type "StopIteration") → Eb (.ref e) { s with heap := h' }) →
    wpAny (model prog w) A (forIn (((pre ++ j :: post).map fun j => Value.ref j.it).zipIdx k) b0 body) Q E s
  | [], j, post, k, s, T, vs, ap, hj, hv, hx, hT, hz, q => by
    rw [List.nil_append, List.map_cons, List.zipIdx_cons, List.forIn_cons]
    obtain ⟨a0, b0'⟩ := hj j (by simp)
    refine wpAny_bind (hb j.it k s _ (ZJ.stop hh a0 b0' hx fun h' e x y => q h' e (fun c o _ n2 z => x c o (fun z' => n2 (by simp [z'])) z) y))
  | p :: pre, j, post, k, s, T, vs, ap, hj, hv, hx, hT, hz, q => by
    cases hv with
    | @cons _ v _ vs hx0 hv =>
      rw [List.cons_append, List.map_cons, List.zipIdx_cons, List.forIn_cons]
      obtain ⟨a0, b0'⟩ := hj p List.mem_cons_self
      refine wpAny_bind (hb p.it k s _ (ZJ.next a0 b0' hx0 fun h1 a1 s1 => ⟨T, s1.extBut _ _ (ap.toi p List.mem_cons_self).symm hT, hz, fun h2 hT2 s2 => ?_⟩))
      have keep : ∀ c o, c ≠ TO → c ≠ p.it → s.heap.get? c = some o → h2.get? c = some o := fun c o n1 n2 e => s2.extBut c o n1 (s1.extBut c o n2 e)
      have nin : p.it ∉ (pre ++ j :: post).map (·.it) := (List.nodup_cons.mp ap.its).1
      refine zloop_stop hh hb pre j post (k + 1) { s with heap := h2 } (T.setIfInBounds k v) vs ap.tail (fun j' hj' => ?_) hv hx hT2 (by rw [Array.size_setIfInBounds]; exact hz) fun h3 e q4 q5 => ?_
      · obtain ⟨x1, x2⟩ := hj j' (List.mem_cons_of_mem _ hj')
        exact ⟨x1.keep fun o e => keep _ o (ap.toi j' (List.mem_cons_of_mem _ hj')) (fun z => nin (z ▸ List.mem_map_of_mem hj')) e, x2.keep fun o e => keep _ o (ap.tol j' (List.mem_cons_of_mem _ hj')) (ap.il j' (List.mem_cons_of_mem _ hj') p List.mem_cons_self) e⟩
      · exact q h3 e (fun c o n1 n2 e' => q4 c o n1 (fun z => n2 (List.mem_cons_of_mem _ z)) (keep c o n1 (fun z => n2 (by rw [z]; exact List.mem_cons_self)) e')) q5
structure ZRec (h : Heap) (z TI TO : Addr) (f0 : Value) (js : List ZJ) : Prop where
  rc : IsZip h z TI TO f0
  ti : IsTO h TI (js.map fun j => Value.ref j.it).toArray
structure ZApart (z TI TO : Addr) (js : List ZJ) : Prop extends Apart TO js where
  iz : ∀ j ∈ js, j.it ≠ z
  lz : ∀ j ∈ js, j.l ≠ z
  toz : TO ≠ z
  tiz : TI ≠ z
  tito : TI ≠ TO
  tii : ∀ j ∈ js, j.it ≠ TI
  ne : js ≠ []
theorem zip_next_items {z TI TO : Addr} {js : List ZJ} {i : Nat} {T : Array Value} {vs : List Value} {Q : Value → Shared → Prop} (D : ZApart z TI TO js) (hz : ZRec s.heap z TI TO .none js) (hT : IsTO s.heap TO T) (hsz : T.size = js.length) (hl : js.length ≤ 100)
    (hj : ∀ j ∈ js, j.At s.heap i ∧ j.Sq s.heap) (hv : Paired (fun (j : ZJ) v => j.xs[i]? = some v) js vs)
    (q : ∀ h', ZRec h' z TI TO (rawInt s.heap.objs.size) js → IsTO h' TO vs.toArray → (∀ j ∈ js, j.At h' (i + 1)) → IsTO h' s.heap.objs.size vs.toArray → h'.objs.size = s.heap.objs.size + 1 → (∀ c o, c ≠ z → c ≠ TO → c ∉ js.map (·.it) → s.heap.get? c = some o → h'.get? c = some o) → Q (.ref s.heap.objs.size) { s with heap := h' }) :
    wpAny (model prog w) A (Builtin.«zip.__next__» ⟨[.ref z], []⟩) (fun fin s' => ∃ v, fin = .done (.ret v) ∧ Q v s') E s := by
  have hlv : vs.length = js.length := (Paired.length hv).symm
  obtain ⟨hz, hTI⟩ := hz
  show wpAny _ _ (field (.ref z) 2 >>= _) _ _ _
  refine wpAny_bind (wpAny_field hz rfl (x := .bool false) rfl ?_)
  show wpAny _ _ (field (.ref z) 3 >>= _) _ _ _
  refine wpAny_bind (wpAny_field hz rfl (x := .ref TI) rfl ?_)
  refine wpAny_bind (wpAny_seqItems hTI rfl ?_)
  have hne : ((js.map fun j => Value.ref j.it).toArray.isEmpty) = false := by
    have := D.ne
    cases hjs : js with
    | nil => exact absurd hjs this
    | cons _ _ => simp
  dsimp only
  rw [hne]
  simp only [Bool.false_eq_true, if_false]
  show wpAny _ _ (Builtin.SmallTypes.ownedTupleIsFree (.ref z) >>= _) _ _ _
  refine wpAny_bind ?_
  unfold Builtin.SmallTypes.ownedTupleIsFree
  refine wpAny_bind (wpAny_field hz rfl (x := .none) rfl (wpAny_pure ?_))
  simp only [if_true]
  refine wpAny_bind (wpAny_rule ?_)
  refine wpAny_bind (wpAny_field hz rfl (x := .ref TO) rfl ?_)
  refine wpAny_bind (wpAny_setField_rec hz (by simp) fun h₁ hz₁ hs₁ => ?_)
  replace hz₁ : IsZip h₁ z TI TO .ellipsis := hz₁
  replace hs₁ : Heap.SameBut z s.heap h₁ := hs₁
  refine wpAny_bind (zloop_items (TO := TO) (i := i) (Eb := fun e s1 => wpAny (model prog w) A (setField (.ref z) 0 .none) (fun _ s2 => E e s2) E s1) ?hb js 0 { s with heap := h₁ } T vs D.toApart (fun j h => ?_) hv (hs₁.extBut _ _ D.toz hT) (by omega) fun h₂ q1 q2 q3 q4 => ?_)
  case hb =>
    intro it k s' R' h
    refine wpAny_bind (wpAny_onRaise ?_)
    show wpAny _ _ (Builtin.SmallTypes.nextOf (.ref it) >>= _) _ _ _
    refine wpAny_bind (wpAny_mono h (fun x s1 ⟨T1, t1, z1, k1⟩ => wpAny_pure ?_) fun e s1 he => he)
    refine wpAny_bind (wpAny_seqItems t1 rfl ?_)
    refine wpAny_bind (wpAny_updateSeq t1 rfl ?_ (by rw [sizeLine_eq]; omega) (by rw [Array.size_setIfInBounds, sizeLine_eq]; omega))
    refine wpAny_bind (wpAny_letGo (wpAny_pure ?_))
    refine k1 _ ?_ (Heap.SameBut.update ..)
    rw [IsTO, Heap.get?_update_self _ t1 rfl]
    simp [Obj.mapSeq]
  · obtain ⟨x1, x2⟩ := hj j h
    exact ⟨x1.keep fun o e => hs₁.extBut _ o (D.iz j h) e, x2.keep fun o e => hs₁.extBut _ o (D.lz j h) e⟩
  · rw [setAll_all (by omega)] at q2
    have zni : z ∉ js.map (·.it) := fun z' => by
      obtain ⟨j, h1, h2⟩ := List.mem_map.mp z'
      exact D.iz j h1 h2
    have tni : TI ∉ js.map (·.it) := fun z' => by
      obtain ⟨j, h1, h2⟩ := List.mem_map.mp z'
      exact D.tii j h1 h2
    have hz₂ : IsZip h₂ z TI TO .ellipsis := q4 z _ D.toz.symm zni hz₁
    have hTI₂ : IsTO h₂ TI (js.map fun j => Value.ref j.it).toArray := q4 TI _ D.tito tni (hs₁.extBut _ _ D.tiz hTI)
    have hs2 : h₂.objs.size = s.heap.objs.size := by rw [q3]; exact hs₁.1
    have zlt : z < h₂.objs.size := Heap.lt_size hz₂
    refine wpAny_bind (wpAny_seqItems q2 rfl ?_)
    refine wpAny_bind (wpAny_newTuple ?_ (by show vs.length ≤ _; rw [sizeLine_eq]; omega))
    show wpAny _ _ (Builtin.SmallTypes.ownedTupleHandOut (.ref z) (.ref h₂.objs.size) >>= _) _ _ _
    refine wpAny_bind ?_
    unfold Builtin.SmallTypes.ownedTupleHandOut
    have hz₆ : IsZip (h₂.push { cls := .type "tuple", data := .seq vs.toArray }) z TI TO .ellipsis := Heap.get?_push_of_some _ hz₂
    refine wpAny_bind (wpAny_setField_rec hz₆ (by simp) fun h₇ hz₇ hs₇ => ?_)
    replace hz₇ : IsZip h₇ z TI TO (rawInt h₂.objs.size) := hz₇
    replace hs₇ : Heap.SameBut z (h₂.push { cls := .type "tuple", data := .seq vs.toArray }) h₇ := hs₇
    refine wpAny_setField_rec hz₇ (by simp) fun h₈ hz₈ hs₈ => ?_
    replace hz₈ : IsZip h₈ z TI TO (rawInt h₂.objs.size) := hz₈
    replace hs₈ : Heap.SameBut z h₇ h₈ := hs₈
    have up : ∀ c o, c ≠ z → h₂.get? c = some o → h₈.get? c = some o := fun c o c1 e => hs₈.extBut _ _ c1 (hs₇.extBut _ _ c1 (Heap.get?_push_of_some _ e))
    have hT₈ : IsTO h₈ h₂.objs.size vs.toArray := hs₈.extBut _ _ (Nat.ne_of_gt zlt) (hs₇.extBut _ _ (Nat.ne_of_gt zlt) (Heap.get?_push_size _ rfl))
    have hz8 : h₈.objs.size = h₂.objs.size + 1 := by rw [hs₈.1, hs₇.1, Heap.size_push]
    rw [hs2] at hz₈ hT₈ hz8
    refine wpAny_pure ⟨_, rfl, ?_⟩
    show Q (.ref h₂.objs.size) _
    rw [hs2]
    exact q h₈ ⟨hz₈, up _ _ D.tiz hTI₂⟩ (up _ _ D.toz q2) (fun j hj' => (q1 j hj').keep fun o e => up _ o (D.iz j hj') e) hT₈ hz8 fun c o c1 c2 c3 e => up c o c1 (q4 c o c2 c3 (hs₁.extBut _ _ c1 e))
theorem zip_next_stop {z TI TO : Addr} {pre post : List ZJ} {j : ZJ} {i : Nat} {T : Array Value} {vs : List Value} {Q : Fin → Shared → Prop} (hh : A.handled = none) (D : ZApart z TI TO (pre ++ j :: post)) (hz : ZRec s.heap z TI TO .none (pre ++ j :: post)) (hT : IsTO s.heap TO T) (hsz : T.size ≤ 100)
    (hj : ∀ x ∈ pre ++ j :: post, x.At s.heap i ∧ x.Sq s.heap) (hv : Paired (fun (j : ZJ) v => j.xs[i]? = some v) pre vs) (hx : j.xs[i]? = none)
    (q : ∀ h' e, (∀ c o, c ≠ z → c ≠ TO → c ∉ (pre ++ j :: post).map (·.it) → s.heap.get? c = some o → h'.get? c = some o) → (∃ o, h'.get? e = some o ∧ o.cls = .type "StopIteration") → E (.ref e) { s with heap := h' }) :
    wpAny (model prog w) A (Builtin.«zip.__next__» ⟨[.ref z], []⟩) Q E s := by
  obtain ⟨hz, hTI⟩ := hz
  show wpAny _ _ (field (.ref z) 2 >>= _) _ _ _
  refine wpAny_bind (wpAny_field hz rfl (x := .bool false) rfl ?_)
  show wpAny _ _ (field (.ref z) 3 >>= _) _ _ _
  refine wpAny_bind (wpAny_field hz rfl (x := .ref TI) rfl ?_)
  refine wpAny_bind (wpAny_seqItems hTI rfl ?_)
  have hne : (((pre ++ j :: post).map fun j => Value.ref j.it).toArray.isEmpty) = false := by
    have := D.ne
    cases hjs : (pre ++ j :: post) with
    | nil => exact absurd hjs this
    | cons _ _ => simp
  dsimp only
  rw [hne]
  simp only [Bool.false_eq_true, if_false]
  show wpAny _ _ (Builtin.SmallTypes.ownedTupleIsFree (.ref z) >>= _) _ _ _
  refine wpAny_bind ?_
  unfold Builtin.SmallTypes.ownedTupleIsFree
  refine wpAny_bind (wpAny_field hz rfl (x := .none) rfl (wpAny_pure ?_))
  simp only [if_true]
  refine wpAny_bind (wpAny_rule ?_)
  refine wpAny_bind (wpAny_field hz rfl (x := .ref TO) rfl ?_)
  refine wpAny_bind (wpAny_setField_rec hz (by simp) fun h₁ hz₁ hs₁ => ?_)
  replace hz₁ : IsZip h₁ z TI TO .ellipsis := hz₁
  replace hs₁ : Heap.SameBut z s.heap h₁ := hs₁
  refine wpAny_bind (zloop_stop (TO := TO) (i := i) (Eb := fun e s1 => wpAny (model prog w) A (setField (.ref z) 0 .none) (fun _ s2 => E e s2) E s1) hh ?hb pre j post 0 { s with heap := h₁ } T vs D.toApart (fun x h => ?_) hv hx (hs₁.extBut _ _ D.toz hT) hsz fun h₂ e q4 q5 => ?_)
  case hb =>
    intro it k s' R' h
    refine wpAny_bind (wpAny_onRaise ?_)
    show wpAny _ _ (Builtin.SmallTypes.nextOf (.ref it) >>= _) _ _ _
    refine wpAny_bind (wpAny_mono h (fun x s1 ⟨T1, t1, z1, k1⟩ => wpAny_pure ?_) fun e s1 he => he)
    refine wpAny_bind (wpAny_seqItems t1 rfl ?_)
    refine wpAny_bind (wpAny_updateSeq t1 rfl ?_ (by rw [sizeLine_eq]; omega) (by rw [Array.size_setIfInBounds, sizeLine_eq]; omega))
    refine wpAny_bind (wpAny_letGo (wpAny_pure ?_))
    refine k1 _ ?_ (Heap.SameBut.update ..)
    rw [IsTO, Heap.get?_update_self _ t1 rfl]
    simp [Obj.mapSeq]
  · obtain ⟨x1, x2⟩ := hj x h
    exact ⟨x1.keep fun o e => hs₁.extBut _ o (D.iz x h) e, x2.keep fun o e => hs₁.extBut _ o (D.lz x h) e⟩
  · have zni : z ∉ (pre ++ j :: post).map (·.it) := fun z' => by
      obtain ⟨j, h1, h2⟩ := List.mem_map.mp z'
      exact D.iz j h1 h2
    have hz₂ : IsZip h₂ z TI TO .ellipsis := q4 z _ D.toz.symm zni hz₁
    obtain ⟨oe, hoe, hce⟩ := q5
    have hez : e ≠ z := fun x => by subst x; rw [hz₂] at hoe; cases hoe; simp at hce
    refine wpAny_setField_rec hz₂ (by simp) fun h₃ _ hs₃ => q h₃ e (fun c o c1 c2 c3 x => hs₃.extBut _ _ c1 (q4 c o c2 c3 (hs₁.extBut _ _ c1 x))) ⟨oe, hs₃.extBut _ _ hez hoe, hce⟩
theorem zip_item {z TI TO : Addr} {js : List ZJ} {i : Nat} {T : Array Value} {vs : List Value} {Q : Option Value → Shared → Prop} (D : ZApart z TI TO js) (hz : ZRec s.heap z TI TO .none js) (hT : IsTO s.heap TO T) (hsz : T.size = js.length) (hl : js.length ≤ 100)
    (hj : ∀ j ∈ js, j.At s.heap i ∧ j.Sq s.heap) (hv : Paired (fun (j : ZJ) v => j.xs[i]? = some v) js vs)
    (q : ∀ h', ZRec h' z TI TO (rawInt s.heap.objs.size) js → IsTO h' TO vs.toArray → (∀ j ∈ js, j.At h' (i + 1)) → IsTO h' s.heap.objs.size vs.toArray → h'.objs.size = s.heap.objs.size + 1 → (∀ c o, c ≠ z → c ≠ TO → c ∉ js.map (·.it) → s.heap.get? c = some o → h'.get? c = some o) → Q (some (.ref s.heap.objs.size)) { s with heap := h' }) :
    wpAny (model prog w) A (pyNext (.ref z)) Q E s := by
  have hT' : s.TypeIs (.ref z) "zip" := ⟨_, hz.rc, rfl⟩
  unfold pyNext
  exact wpAny_bind (wpAny_attempt (wpAny_callSpecial?_slot (name := Str.ofString "__next__") hT' F.slot_zip_next (wpAny_call_entry F.slot_zip_next hT' F.entry_zip_next
    (zip_next_items D hz hT hsz hl hj hv fun h' a1 a2 a3 a4 a5 a6 => wpAny_pure (q h' a1 a2 a3 a4 a5 a6)) (F.args_zip_next_1 _))))
theorem zip_stop {z TI TO : Addr} {pre post : List ZJ} {j : ZJ} {i : Nat} {T : Array Value} {vs : List Value} {Q : Option Value → Shared → Prop} (hh : A.handled = none) (D : ZApart z TI TO (pre ++ j :: post)) (hz : ZRec s.heap z TI TO .none (pre ++ j :: post)) (hT : IsTO s.heap TO T) (hsz : T.size ≤ 100)
    (hj : ∀ x ∈ pre ++ j :: post, x.At s.heap i ∧ x.Sq s.heap) (hv : Paired (fun (j : ZJ) v => j.xs[i]? = some v) pre vs) (hx : j.xs[i]? = none)
    (q : ∀ h', (∀ c o, c ≠ z → c ≠ TO → c ∉ (pre ++ j :: post).map (·.it) → s.heap.get? c = some o → h'.get? c = some o) → Q none { s with heap := h' }) :
    wpAny (model prog w) A (pyNext (.ref z)) Q E s := by
  have hT' : s.TypeIs (.ref z) "zip" := ⟨_, hz.rc, rfl⟩
  unfold pyNext
  refine wpAny_bind (wpAny_attempt (wpAny_callSpecial?_slot (name := Str.ofString "__next__") hT' F.slot_zip_next (wpAny_call_entry F.slot_zip_next hT' F.entry_zip_next
    (zip_next_stop (A := A.in1) hh D hz hT hsz hj hv hx fun h' e hk he => ?_) (F.args_zip_next_1 _))))
  obtain ⟨o, ho, hc⟩ := he
  refine wpAny_bind (wpAny_isInstance (T := "StopIteration") (b := true) ⟨o, ho, hc⟩ isSubtype_stop ?_)
  exact wpAny_pure (q _ hk)
end
end D
end
section
set_option Elab.async false
set_option linter.all false
set_option maxRecDepth 100000
set_option autoImplicit false
namespace D
open PySem PySem.Spec PyProof.Rows L2
def SqK (K : PySem.W.Frag) (H : Hp) (q : Bool × Addr) (xs : List V) : Prop := (q.1 = true ∧ SqL K H q.2 xs) ∨ (q.1 = false ∧ SqT K H q.2 xs)
def ZJ.key (j : ZJ) : Bool × Addr × Addr := (j.k, j.it, j.l)
def qOf (x : Bool × Addr × Addr) : Bool × Addr := (x.1, x.2.2)
def Izp (K : PySem.W.Frag) (qs : List (Bool × Addr)) : It :=
  ⟨fun i H => ∀ q ∈ qs, ∃ xs v, SqK K H q xs ∧ xs[i]? = some v,
   fun i H x H' => ∃ p vs, H p = none ∧ x = .ref p ∧ H' = upd H p (.tup vs) ∧ Paired (fun q v => ∀ xs, SqK K H q xs → xs[i]? = some v) qs vs,
   fun i H => (∀ q ∈ qs, ∃ xs, SqK K H q xs) ∧ ∃ pre q post, qs = pre ++ q :: post ∧ (∀ p ∈ pre, ∃ xs v, SqK K H p xs ∧ xs[i]? = some v) ∧ ∃ xs, SqK K H q xs ∧ xs.length ≤ i⟩
section
variable {X : L2.Cx} {pins : List (Addr × Obj)} {σ : L2.St} {H : Hp} {s : Shared} {h' : Heap}
theorem inv_turnedL {t' : Nat} {ch : List Addr} (I : Inv X pins σ H s) (k : ∀ b o, b ∉ ch → s.heap.get? b = some o → h'.get? b = some o) (hf : ∀ b ∈ ch, FpOk X pins H b) : Inv X pins σ H { s with heap := h', toks := t' } := by
  have nit : ∀ b u, H b = some u → b ∉ ch := fun b u e z => by rw [(hf b z).1] at e; cases e
  refine I.step (g' := s.gens) (d' := s.drawn) (ch := ch) (fun b hb => ?_) (fun b o _ _ hc e _ => k b o hc e) (fun b o _ _ hc e _ => ⟨o.slots, k b o hc e⟩) (fun _ _ _ _ n => n)
    (fun b o hc e => ⟨o, k b o hc e⟩) (fun _ _ e => e) (fun _ _ _ e => e) (fun b ps e => ⟨#[], by rw [e]; simp⟩) (fun m hm => ?_) (fun b u e => ?_) I.bare
  · obtain ⟨f0, f1, f2, f3, f4, f5⟩ := hf b hb
    exact ⟨f3, f1, f4, f5⟩
  · obtain ⟨o, es, ep, ho, r⟩ := hm
    exact ⟨o, es, ep, k _ o (fun z => (hf _ z).2.1 rfl) ho, r⟩
  · refine (I.hok b u e).stay (fun c v hc q => k c v ?_ q) (fun _ q => q) fun _ _ q => q
    rcases hc with z | z
    · rw [z]; exact nit b u e
    · exact nit c _ z
theorem inv_turnedT {t' : Nat} {ch : List Addr} {vs : List V} {us : List Value} (I : Inv X pins σ H s) (k : ∀ b o, b ∉ ch → s.heap.get? b = some o → h'.get? b = some o) (hf : ∀ b ∈ ch, FpOk X pins H b)
    (ht : h'.get? s.heap.objs.size = some { cls := .type "tuple", data := .seq us.toArray }) (rv : Vals vs us) (hz : vs.length ≤ sizeLine) : Inv X pins σ (upd H s.heap.objs.size (.tup vs)) { s with heap := h', toks := t' } := by
  have nit : ∀ b u, H b = some u → b ∉ ch := fun b u e z => by rw [(hf b z).1] at e; cases e
  have hHs : H s.heap.objs.size = none := I.hok.fresh (Nat.le_refl _)
  have hok : HOk X.prog X.w (upd H s.heap.objs.size (.tup vs)) h' := by
    have lift : ∀ b o, H b = some o → ObjOk X.prog X.w (upd H s.heap.objs.size (.tup vs)) h' b o := fun b o q =>
      (I.hok b o q).stay (fun c v hcv r => k c v (by
        rcases hcv with z | z
        · rw [z]; exact nit b o q
        · exact nit c _ z) r) (fun c r => by rw [upd_ne (ne_of_none r hHs)]; exact r) fun c ys r => by rw [upd_ne (ne_of_none r hHs)]; exact r
    intro b o q
    by_cases eb : b = s.heap.objs.size
    · subst eb
      rw [upd_same] at q
      cases q
      exact ⟨hz, us, rv, ⟨_, ht, rfl, _, rfl⟩⟩
    · rw [upd_ne eb] at q
      exact lift b o q
  refine I.step (g' := s.gens) (d' := s.drawn) (ch := ch) (fun b hb => ?_) (fun b o hL hb hcb q n => k b o hcb q) (fun b o hL hb hcb q n => ⟨o.slots, k b o hcb q⟩) (fun b o hcb q n => ?_) (fun b o hcb q => ⟨o, k b o hcb q⟩) (fun b ys q => by rw [upd_ne (ne_of_none q hHs)]; exact q) (fun b o u q => by rw [upd_ne (ne_of_none q hHs)]; exact q)
    (fun b ps q => ⟨#[], by rw [upd_ne (ne_of_none q hHs), q]; simp⟩) (fun m hm => ?_) hok I.bare
  · obtain ⟨f0, f1, f2, f3, f4, f5⟩ := hf b hb
    exact ⟨f3, f1, f4, f5⟩
  · rw [upd_ne (Nat.ne_of_lt (Heap.lt_size q))]; exact n
  · obtain ⟨o, es, ep, q, r⟩ := hm
    exact ⟨o, es, ep, k _ o (fun z => (hf _ z).2.1 rfl) q, r⟩
theorem SqK.heap (I : Inv X pins σ H s) {j : ZJ} {xs : List V} (h : SqK X.K H (j.k, j.l) xs) : ∃ its : List Value, Vals xs its ∧ ({ j with xs := its.toArray } : ZJ).Sq s.heap ∧ xs.length ≤ sizeLine := by
  rcases h with ⟨e, h⟩ | ⟨e, h⟩
  · obtain ⟨its, rv, p, hz⟩ := I.list h
    exact ⟨its, rv, .inl ⟨e, p.isList⟩, hz⟩
  · obtain ⟨its, rv, p, hz⟩ := I.tuple h
    exact ⟨its, rv, .inr ⟨e, (show s.heap.IsTuple j.l its.toArray from p)⟩, hz⟩
theorem SqK.inj (I : Inv X pins σ H s) {q : Bool × Addr} {xs ys : List V} (h : SqK X.K H q xs) (h' : SqK X.K H q ys) : xs = ys := by
  rcases h with ⟨e, h⟩ | ⟨e, h⟩ <;> rcases h' with ⟨e', h'⟩ | ⟨e', h'⟩
  · exact I.list_inj h h'
  · rw [e] at e'; cases e'
  · rw [e] at e'; cases e'
  · exact I.tuple_inj h h'
theorem fillZ (I : Inv X pins σ H s) {i : Nat} : ∀ {js : List ZJ}, (∀ q ∈ js.map (fun j => qOf j.key), ∃ xs v, SqK X.K H q xs ∧ xs[i]? = some v) →
    ∃ (js' : List ZJ) (us : List Value) (vs : List V), js'.map ZJ.key = js.map ZJ.key ∧ (∀ j ∈ js', j.Sq s.heap) ∧ Paired (fun (j : ZJ) u => j.xs[i]? = some u) js' us ∧ Vals vs us ∧ Paired (fun q v => ∀ xs, SqK X.K H q xs → xs[i]? = some v) (js.map fun j => qOf j.key) vs
  | [], _ => ⟨[], [], [], rfl, by simp, .nil, .nil, .nil⟩
  | j :: js, h => by
    obtain ⟨js', us, vs, h1, h2, h3, h4, h5⟩ := fillZ I (js := js) fun q hq => h q (List.mem_cons_of_mem _ hq)
    obtain ⟨xs, v, hs, hx⟩ := h (qOf j.key) List.mem_cons_self
    obtain ⟨its, rv, sq, hz⟩ := hs.heap I
    obtain ⟨u, hu, ru⟩ := rv.get hx
    refine ⟨{ j with xs := its.toArray } :: js', u :: us, v :: vs, by simp only [List.map_cons, h1]; rfl, fun x hx' => ?_, .cons (by simpa using hu) h3, .cons ru h4, .cons (fun ys hy => by rw [hs.inj I hy] at hx; exact hx) h5⟩
    rcases List.mem_cons.mp hx' with rfl | z
    · exact sq
    · exact h2 x z
theorem fillS (I : Inv X pins σ H s) : ∀ {js : List ZJ}, (∀ q ∈ js.map (fun j => qOf j.key), ∃ xs, SqK X.K H q xs) → ∃ js' : List ZJ, js'.map ZJ.key = js.map ZJ.key ∧ (∀ j ∈ js', j.Sq s.heap)
  | [], _ => ⟨[], rfl, by simp⟩
  | j :: js, h => by
    obtain ⟨js', h1, h2⟩ := fillS I (js := js) fun q hq => h q (List.mem_cons_of_mem _ hq)
    obtain ⟨xs, hs⟩ := h (qOf j.key) List.mem_cons_self
    obtain ⟨its, rv, sq, hz⟩ := hs.heap I
    refine ⟨{ j with xs := its.toArray } :: js', by simp only [List.map_cons, h1]; rfl, fun x hx' => ?_⟩
    rcases List.mem_cons.mp hx' with rfl | z
    · exact sq
    · exact h2 x z
def AtK (h : Heap) (i : Nat) (x : Bool × Addr × Addr) : Prop := (x.1 = true ∧ h.IsListIter x.2.1 x.2.2 i) ∨ (x.1 = false ∧ h.IsTupleIter x.2.1 x.2.2 i)
theorem at_key {j : ZJ} {h : Heap} {i : Nat} : j.At h i ↔ AtK h i j.key := Iff.rfl
theorem at_all {js : List ZJ} {ks : List (Bool × Addr × Addr)} {h : Heap} {i : Nat} (e : js.map ZJ.key = ks) : (∀ j ∈ js, j.At h i) ↔ ∀ x ∈ ks, AtK h i x := by
  subst e
  simp only [List.forall_mem_map]
  exact Iff.rfl
theorem it_all {js : List ZJ} {ks : List (Bool × Addr × Addr)} (e : js.map ZJ.key = ks) : js.map (·.it) = ks.map (·.2.1) := by
  subst e; simp [ZJ.key, Function.comp_def]
theorem q_all {js : List ZJ} {ks : List (Bool × Addr × Addr)} (e : js.map ZJ.key = ks) : js.map (fun j => qOf j.key) = ks.map qOf := by
  subst e; simp [Function.comp_def]
structure ZK (h : Heap) (z TI TO : Addr) (f0 : Value) (ks : List (Bool × Addr × Addr)) (i : Nat) : Prop where
  rc : IsZip h z TI TO f0
  ti : IsTO h TI (ks.map fun x => Value.ref x.2.1).toArray
  to : ∃ T, IsTO h TO T ∧ T.size = ks.length
  at_ : ∀ x ∈ ks, AtK h i x
theorem AtK.keep {x : Bool × Addr × Addr} {h h' : Heap} {i : Nat} (a : AtK h i x) (k : ∀ o, h.get? x.2.1 = some o → h'.get? x.2.1 = some o) : AtK h' i x := by
  rcases a with ⟨e, o, a, r⟩ | ⟨e, o, a, r⟩
  · exact .inl ⟨e, o, k o a, r⟩
  · exact .inr ⟨e, o, k o a, r⟩
theorem AtK.obj {x : Bool × Addr × Addr} {h : Heap} {i : Nat} (a : AtK h i x) : ∃ o, h.get? x.2.1 = some o ∧ ∃ vs, o.data = .fields vs := by
  rcases a with ⟨e, o, a, _, r⟩ | ⟨e, o, a, _, r⟩ <;> exact ⟨o, a, _, r⟩
def zfp (z TI TO : Addr) (ks : List (Bool × Addr × Addr)) : List Addr := z :: TI :: TO :: ks.map (·.2.1)
theorem turn_zip {P : Program} {w : World} {K : PySem.W.Frag} {elts : List Expr} {x1} {pos : Pos} {z TI TO : Addr} {ks : List (Bool × Addr × Addr)} (D : ∀ js : List ZJ, js.map ZJ.key = ks → ZApart z TI TO js) (hl : ks.length ≤ 100) :
    Turn P w K (.Tuple elts x1 pos) (Izp K (ks.map qOf)) (zfp z TI TO ks) z (fun i h => ZK h z TI TO .none ks i) where
  mem := by simp [zfp]
  obj := fun i h st b hb => by
    simp only [zfp, List.mem_cons] at hb
    rcases hb with rfl | rfl | rfl | hb
    · refine ⟨_, st.rc, fun v q => ?_⟩
      have q' : Data.fields _ = Data.cell v := q
      cases q'
    · refine ⟨_, st.ti, fun v q => ?_⟩
      have q' : Data.seq _ = Data.cell v := q
      cases q'
    · obtain ⟨T, st, _⟩ := st.to
      refine ⟨_, st, fun v q => ?_⟩
      have q' : Data.seq _ = Data.cell v := q
      cases q'
    · obtain ⟨x, hx, rfl⟩ := List.mem_map.mp hb
      obtain ⟨o, ho, vs, hd⟩ := (st.at_ x hx).obj
      exact ⟨o, ho, fun v q => by rw [hd] at q; cases q⟩
  keep := fun i h h' st k => by
    obtain ⟨T, t1, t2⟩ := st.to
    exact ⟨k z (by simp [zfp]) _ st.rc, k TI (by simp [zfp]) _ st.ti, ⟨T, k TO (by simp [zfp]) _ t1, t2⟩, fun x hx => (st.at_ x hx).keep fun o e => k _ (by simp only [zfp, List.mem_cons]; exact .inr (.inr (.inr (List.mem_map_of_mem (f := fun x => x.2.1) hx)))) o e⟩
  item := by
    intro X hP hw hK hc i pins s σ H E I hf st hg
    subst hP hw hK
    have hg : ∀ q ∈ ks.map qOf, ∃ xs v, SqK X.K H q xs ∧ xs[i]? = some v := hg
    obtain ⟨js0, e0⟩ : ∃ js0 : List ZJ, js0.map ZJ.key = ks := ⟨ks.map fun x => ⟨x.1, x.2.1, x.2.2, #[]⟩, by simp [ZJ.key, Function.comp_def]⟩
    obtain ⟨js, us, vs, h1, h2, h3, h4, h5⟩ := fillZ I (js := js0) (i := i) (by rw [q_all e0]; exact hg)
    rw [e0] at h1
    rw [q_all e0] at h5
    have dz := D js h1
    obtain ⟨T, t1, t2⟩ := st.to
    have hlen : js.length = ks.length := by rw [← h1, List.length_map]
    have eti : (js.map fun j => Value.ref j.it) = ks.map fun x => Value.ref x.2.1 := by subst h1; simp [ZJ.key, Function.comp_def]
    refine zip_item dz ⟨st.rc, by rw [eti]; exact st.ti⟩ t1 (by rw [t2, hlen]) (by rw [hlen]; exact hl) (fun j hj => ⟨(at_all h1).mpr st.at_ j hj, h2 j hj⟩) h3 fun h' a1 a2 a3 a4 a5 a6 => ⟨_, rfl, ?_⟩
    have zlt : z < s.heap.objs.size := Heap.lt_size st.rc
    refine wpAny_letOwnedTupleGo_zip (s := { s with heap := h' }) a1.rc fun h2' hE sb => ?_
    have hit : js.map (·.it) = ks.map (·.2.1) := it_all h1
    have k2 : ∀ b o, b ∉ z :: TO :: ks.map (·.2.1) → s.heap.get? b = some o → h2'.get? b = some o := fun b o nb q => by
      simp only [List.mem_cons, not_or] at nb
      exact sb.extBut b o nb.1 (a6 b o nb.1 nb.2.1 (by rw [hit]; exact nb.2.2) q)
    have hf' : ∀ b ∈ z :: TO :: ks.map (·.2.1), FpOk X pins H b := fun b hb => hf b (by
      simp only [zfp, List.mem_cons] at hb ⊢
      rcases hb with q | q | q
      · exact .inl q
      · exact .inr (.inr (.inl q))
      · exact .inr (.inr (.inr q)))
    have hHs : H s.heap.objs.size = none := I.hok.fresh (Nat.le_refl _)
    have hvz : vs.length ≤ sizeLine := by
      have e1 : vs.length = us.length := h4.length
      have e2 : js.length = us.length := Paired.length h3
      rw [sizeLine_eq]; omega
    have I2 : Inv X pins σ (upd H s.heap.objs.size (.tup vs)) { s with heap := h2' } := inv_turnedT (t' := s.toks) I k2 hf' (sb.extBut _ _ (Nat.ne_of_gt zlt) a4) h4 hvz
    refine ⟨.ref s.heap.objs.size, _, I2, rfl, ⟨_, vs, hHs, rfl, rfl, h5⟩, ⟨hE, ?_, ⟨us.toArray, sb.extBut _ _ dz.toz a2, ?_⟩, ?_⟩, fun b hb => ?_⟩
    · have := sb.extBut _ _ dz.tiz a1.ti
      rw [eti] at this
      exact this
    · have e2 : js.length = us.length := Paired.length h3
      simp; omega
    · refine (at_all h1).mp fun j hj => (a3 j hj).keep fun o e => sb.extBut _ o (dz.iz j hj) e
    · have : b < s.heap.objs.size := by
        simp only [zfp, List.mem_cons] at hb
        rcases hb with rfl | rfl | rfl | hb
        · exact zlt
        · exact Heap.lt_size st.ti
        · exact Heap.lt_size t1
        · obtain ⟨x, hx, rfl⟩ := List.mem_map.mp hb
          obtain ⟨o, ho, _⟩ := (st.at_ x hx).obj
          exact Heap.lt_size ho
      rw [upd_ne (Nat.ne_of_lt this)]
      exact (hf b hb).1
  done := by
    intro X hP hw hK hc i pins s σ H E I hf st hg
    subst hP hw hK
    obtain ⟨hall, pre, q, post, hq, hpre, xs, hsx, hxl⟩ : (∀ q ∈ ks.map qOf, ∃ xs, SqK X.K H q xs) ∧ ∃ pre q post, ks.map qOf = pre ++ q :: post ∧ (∀ p ∈ pre, ∃ xs v, SqK X.K H p xs ∧ xs[i]? = some v) ∧ ∃ xs, SqK X.K H q xs ∧ xs.length ≤ i := hg
    obtain ⟨kpre, kr, ek, ep, er⟩ := List.map_eq_append_iff.mp hq
    obtain ⟨kq, kpost, er', eq', epost⟩ := List.map_eq_cons_iff.mp er
    subst er' eq' epost ep
    obtain ⟨p0, e0⟩ : ∃ js0 : List ZJ, js0.map ZJ.key = kpre := ⟨kpre.map fun x => ⟨x.1, x.2.1, x.2.2, #[]⟩, by simp [ZJ.key, Function.comp_def]⟩
    obtain ⟨o0, f0⟩ : ∃ js0 : List ZJ, js0.map ZJ.key = kpost := ⟨kpost.map fun x => ⟨x.1, x.2.1, x.2.2, #[]⟩, by simp [ZJ.key, Function.comp_def]⟩
    obtain ⟨jp, us, vs, h1, h2, h3, h4, h5⟩ := fillZ I (js := p0) (i := i) (by rw [q_all e0]; exact hpre)
    obtain ⟨jo, o1, o2⟩ := fillS I (js := o0) (by rw [q_all f0]; exact fun q hq' => hall q (by rw [ek]; simp at hq' ⊢; exact .inr (.inr hq')))
    rw [e0] at h1
    rw [f0] at o1
    obtain ⟨its, rv, sq, hz⟩ := SqK.heap I (j := ⟨kq.1, kq.2.1, kq.2.2, #[]⟩) hsx
    have hkey : (jp ++ (⟨kq.1, kq.2.1, kq.2.2, its.toArray⟩ : ZJ) :: jo).map ZJ.key = ks := by rw [ek, List.map_append, List.map_cons, h1, o1]; rfl
    have dz := D _ hkey
    obtain ⟨T, t1, t2⟩ := st.to
    have eti : ((jp ++ (⟨kq.1, kq.2.1, kq.2.2, its.toArray⟩ : ZJ) :: jo).map fun j => Value.ref j.it) = ks.map fun x => Value.ref x.2.1 := by rw [← hkey]; simp [ZJ.key, Function.comp_def]
    have hlv : xs.length = its.length := rv.length
    refine zip_stop (I.ok.hd hc) dz ⟨st.rc, by rw [eti]; exact st.ti⟩ t1 (by rw [t2]; exact hl) (fun j hj => ⟨(at_all hkey).mpr st.at_ j hj, ?_⟩) h3 (by simp; omega) fun h' a6 => ⟨rfl, ?_⟩
    · rcases List.mem_append.mp hj with z1 | z1
      · exact h2 j z1
      · rcases List.mem_cons.mp z1 with rfl | z1
        · exact sq
        · exact o2 j z1
    · refine inv_turnedL (t' := s.toks) (ch := z :: TO :: ks.map (·.2.1)) I (fun b o nb q => ?_) fun b hb => hf b (by
        simp only [zfp, List.mem_cons] at hb ⊢
        rcases hb with q | q | q
        · exact .inl q
        · exact .inr (.inr (.inl q))
        · exact .inr (.inr (.inr q)))
      simp only [List.mem_cons, not_or] at nb
      exact a6 b o nb.1 nb.2.1 (by rw [it_all hkey]; exact nb.2.2) q
  self := fun _ _ _ _ _ st h => wpAny_pyIter_zip st.rc h
end
end D
end
section
set_option Elab.async false
set_option linter.all false
set_option maxRecDepth 100000
set_option autoImplicit false
namespace D
open PySem PySem.Spec PyProof.Rows L2
theorem typeCall_zip_3 (a b c : Value) : checkTypeCall "zip" ⟨[a, b, c], []⟩ = pure () := by kernel_rfl
theorem newCall_zip_3 (a b c : Value) : checkBuiltinCall "zip.__new__" ⟨[.type "zip", a, b, c], []⟩ = pure () := by kernel_rfl
theorem typeCall_zip_4 (a b c d : Value) : checkTypeCall "zip" ⟨[a, b, c, d], []⟩ = pure () := by kernel_rfl
theorem newCall_zip_4 (a b c d : Value) : checkBuiltinCall "zip.__new__" ⟨[.type "zip", a, b, c, d], []⟩ = pure () := by kernel_rfl
theorem args_object_init_5 (a b c d e : Value) : argsOk "object.__init__" ⟨[a, b, c, d, e], []⟩ := by
  unfold argsOk; rw [signature?_of (id := "object.__init__") (n := ['_', '_', 't', 'i', 'n', 'i', '_', '_']) (o := ['t', 'c', 'e', 'j', 'b', 'o']) (by kernel_rfl) F.owner_object]; kernel_rfl
theorem args_object_init_4 (a b c d : Value) : argsOk "object.__init__" ⟨[a, b, c, d], []⟩ := by
  unfold argsOk; rw [signature?_of (id := "object.__init__") (n := ['_', '_', 't', 'i', 'n', 'i', '_', '_']) (o := ['t', 'c', 'e', 'j', 'b', 'o']) (by kernel_rfl) F.owner_object]; kernel_rfl
abbrev itO (q : Bool × Addr) : Obj := { cls := .type (if q.1 then "list_iterator" else "tuple_iterator"), data := .fields #[.ref q.2, .int 0 0] }
def SqH (h : Heap) (q : Bool × Addr) : Prop := ∃ xs, (q.1 = true ∧ h.IsList q.2 xs) ∨ (q.1 = false ∧ h.IsTuple q.2 xs)
theorem SqH.push {h : Heap} {q : Bool × Addr} (x : SqH h q) (o : Obj) : SqH (h.push o) q := by
  obtain ⟨xs, ⟨e, x⟩ | ⟨e, p, x, r⟩⟩ := x
  · exact ⟨xs, .inl ⟨e, Heap.IsList.push x o⟩⟩
  · exact ⟨xs, .inr ⟨e, p, Heap.get?_push_of_some _ x, r⟩⟩
section
variable {prog : Program} {w : World} {A : Around} {E : Value → Shared → Prop} {s : Shared}
theorem pyIterK {k : Bool} {l : Addr} {Q : Value → Shared → Prop} (x : SqH s.heap (k, l)) (hQ : Q (.ref s.heap.objs.size) { s with heap := s.heap.push (itO (k, l)) }) : wpAny (model prog w) A (pyIter (.ref l)) Q E s := by
  obtain ⟨xs, ⟨e, x⟩ | ⟨e, x⟩⟩ := x
  · cases e; exact wpAny_pyIter_list x hQ
  · cases e; exact wpAny_pyIter_tuple x hQ
end
theorem meets_zip2K (p q : Bool × Addr) :
    Meets (Builtin.«zip.__new__» ⟨[.type "zip", .ref p.2, .ref q.2], []⟩) (fun _ R s => SqH s.heap p ∧ SqH s.heap q ∧
      R (.ok (.ret (.ref (s.heap.objs.size + 4)))) { s with heap := ((((s.heap.push (itO p)).push (itO q)).push { cls := .type "tuple", data := .seq #[.ref s.heap.objs.size, .ref (s.heap.push (itO p)).objs.size] }).push { cls := .type "tuple", data := .seq #[.none, .none] }).push { cls := .type "zip", data := .fields #[.none, .bool false, .bool false, .ref (s.heap.objs.size + 2), .ref (s.heap.objs.size + 3)] } }) :=
  .of_wp fun prog w A R s h => by
    obtain ⟨k1, l1⟩ := p; obtain ⟨k2, l2⟩ := q
    obtain ⟨hp, g, d, tk, os⟩ := s; obtain ⟨hl1, hl2, h⟩ := h
    have hsub := sub_zip
    have hL1 : SqH (Shared.heap ⟨hp, g, d, tk, os⟩) (k1, l1) := hl1
    have hL2 : SqH (Shared.heap ⟨hp.push (itO (k1, l1)), g, d, tk, os⟩) (k2, l2) := SqH.push hl2 _
    wp_walk using pyIterK hL1, pyIterK hL2
    refine ⟨_, rfl, ?_⟩
    simp only [Heap.size_push] at h ⊢
    exact h
set_option maxHeartbeats 0 in
theorem meets_zip3K (p q r : Bool × Addr) :
    Meets (Builtin.«zip.__new__» ⟨[.type "zip", .ref p.2, .ref q.2, .ref r.2], []⟩) (fun _ R s => SqH s.heap p ∧ SqH s.heap q ∧ SqH s.heap r ∧
      R (.ok (.ret (.ref (s.heap.objs.size + 5)))) { s with heap := (((((s.heap.push (itO p)).push (itO q)).push (itO r)).push { cls := .type "tuple", data := .seq #[.ref s.heap.objs.size, .ref (s.heap.objs.size + 1), .ref (s.heap.objs.size + 2)] }).push { cls := .type "tuple", data := .seq #[.none, .none, .none] }).push { cls := .type "zip", data := .fields #[.none, .bool false, .bool false, .ref (s.heap.objs.size + 3), .ref (s.heap.objs.size + 4)] } }) :=
  .of_wp fun prog w A R s h => by
    obtain ⟨k1, l1⟩ := p; obtain ⟨k2, l2⟩ := q; obtain ⟨k3, l3⟩ := r
    obtain ⟨hp, g, d, tk, os⟩ := s; obtain ⟨hl1, hl2, hl3, h⟩ := h
    have hsub := sub_zip
    have hL1 : SqH (Shared.heap ⟨hp, g, d, tk, os⟩) (k1, l1) := hl1
    have hL2 : SqH (Shared.heap ⟨hp.push (itO (k1, l1)), g, d, tk, os⟩) (k2, l2) := SqH.push hl2 _
    have hL3 : SqH (Shared.heap ⟨(hp.push (itO (k1, l1))).push (itO (k2, l2)), g, d, tk, os⟩) (k3, l3) := SqH.push (SqH.push hl3 _) _
    wp_walk using pyIterK hL1, pyIterK hL2, pyIterK hL3
    refine ⟨_, rfl, ?_⟩
    simp only [Heap.size_push] at h ⊢
    exact h
set_option maxHeartbeats 0 in
theorem meets_zip4K (p q r t : Bool × Addr) :
    Meets (Builtin.«zip.__new__» ⟨[.type "zip", .ref p.2, .ref q.2, .ref r.2, .ref t.2], []⟩) (fun _ R s => SqH s.heap p ∧ SqH s.heap q ∧ SqH s.heap r ∧ SqH s.heap t ∧
      R (.ok (.ret (.ref (s.heap.objs.size + 6)))) { s with heap := ((((((s.heap.push (itO p)).push (itO q)).push (itO r)).push (itO t)).push { cls := .type "tuple", data := .seq #[.ref s.heap.objs.size, .ref (s.heap.objs.size + 1), .ref (s.heap.objs.size + 2), .ref (s.heap.objs.size + 3)] }).push { cls := .type "tuple", data := .seq #[.none, .none, .none, .none] }).push { cls := .type "zip", data := .fields #[.none, .bool false, .bool false, .ref (s.heap.objs.size + 4), .ref (s.heap.objs.size + 5)] } }) :=
  .of_wp fun prog w A R s h => by
    obtain ⟨k1, l1⟩ := p; obtain ⟨k2, l2⟩ := q; obtain ⟨k3, l3⟩ := r; obtain ⟨k4, l4⟩ := t
    obtain ⟨hp, g, d, tk, os⟩ := s; obtain ⟨hl1, hl2, hl3, hl4, h⟩ := h
    have hsub := sub_zip
    have hL1 : SqH (Shared.heap ⟨hp, g, d, tk, os⟩) (k1, l1) := hl1
    have hL2 : SqH (Shared.heap ⟨hp.push (itO (k1, l1)), g, d, tk, os⟩) (k2, l2) := SqH.push hl2 _
    have hL3 : SqH (Shared.heap ⟨(hp.push (itO (k1, l1))).push (itO (k2, l2)), g, d, tk, os⟩) (k3, l3) := SqH.push (SqH.push hl3 _) _
    have hL4 : SqH (Shared.heap ⟨((hp.push (itO (k1, l1))).push (itO (k2, l2))).push (itO (k3, l3)), g, d, tk, os⟩) (k4, l4) := SqH.push (SqH.push (SqH.push hl4 _) _) _
    wp_walk using pyIterK hL1, pyIterK hL2, pyIterK hL3, pyIterK hL4
    refine ⟨_, rfl, ?_⟩
    simp only [Heap.size_push] at h ⊢
    exact h
theorem atK_new {h : Heap} {q : Bool × Addr} {a : Addr} (e : h.get? a = some (itO q)) : AtK h 0 (q.1, a, q.2) := by
  obtain ⟨k, l⟩ := q
  cases k
  · exact .inr ⟨rfl, _, e, rfl, rfl⟩
  · exact .inl ⟨rfl, _, e, rfl, rfl⟩
def keysAt (n : Nat) : List (Bool × Addr) → List (Bool × Addr × Addr)
  | [] => []
  | q :: qs => (q.1, n, q.2) :: keysAt (n + 1) qs
theorem keysAt_q : ∀ (qs : List (Bool × Addr)) (n : Nat), (keysAt n qs).map qOf = qs
  | [], _ => rfl
  | q :: qs, n => by simp [keysAt, qOf, keysAt_q qs]
theorem keysAt_len : ∀ (qs : List (Bool × Addr)) (n : Nat), (keysAt n qs).length = qs.length
  | [], _ => rfl
  | q :: qs, n => by simp [keysAt, keysAt_len qs]
theorem keysAt_mem : ∀ {qs : List (Bool × Addr)} {n : Nat} {x : Bool × Addr × Addr}, x ∈ keysAt n qs → (@LE.le Nat _ n x.2.1 ∧ @LT.lt Nat _ x.2.1 (n + qs.length)) ∧ (x.1, x.2.2) ∈ qs
  | [], _, _, h => by cases h
  | q :: qs, n, x, h => by
    rcases List.mem_cons.mp h with rfl | h
    · exact ⟨⟨Nat.le_refl _, by simp⟩, List.mem_cons_self⟩
    · obtain ⟨⟨h1, h2⟩, h3⟩ := keysAt_mem h
      exact ⟨⟨by omega, by simp; omega⟩, List.mem_cons_of_mem _ h3⟩
theorem keysAt_nodup : ∀ (qs : List (Bool × Addr)) (n : Nat), ((keysAt n qs).map (·.2.1)).Nodup
  | [], _ => List.nodup_nil
  | q :: qs, n => by
    rw [keysAt, List.map_cons, List.nodup_cons]
    refine ⟨fun h => ?_, keysAt_nodup qs (n + 1)⟩
    obtain ⟨x, hx, e⟩ := List.mem_map.mp h
    have h1 := (keysAt_mem hx).1.1
    have e' : @Eq Nat x.2.1 n := e
    omega
theorem zapart {n m : Nat} {qs : List (Bool × Addr)} (hq : ∀ q ∈ qs, @LT.lt Nat _ q.2 n) (hne : qs ≠ []) (hm : m = n + qs.length) (js : List ZJ) (hk : js.map ZJ.key = keysAt n qs) : ZApart (m + 2) m (m + 1) js := by
  have hj : ∀ j ∈ js, (@LE.le Nat _ n j.it ∧ @LT.lt Nat _ j.it (n + qs.length)) ∧ @LT.lt Nat _ j.l n := fun j h => by
    have h1 : j.key ∈ keysAt n qs := by rw [← hk]; exact List.mem_map_of_mem h
    obtain ⟨h2, h3⟩ := keysAt_mem h1
    exact ⟨h2, hq _ h3⟩
  refine { its := ?_, toi := fun j h => ?_, tol := fun j h => ?_, il := fun j h j' h' => ?_, iz := fun j h => ?_, lz := fun j h => ?_, toz := ?_, tiz := ?_, tito := ?_, tii := fun j h => ?_, ne := fun h => ?_ }
  · rw [it_all hk]; exact keysAt_nodup qs n
  · have := hj j h; exact fun e => by have e' : @Eq Nat _ _ := e; omega
  · have := hj j h; exact fun e => by have e' : @Eq Nat _ _ := e; omega
  · have := hj j h; have := hj j' h'; exact fun e => by have e' : @Eq Nat _ _ := e; omega
  · have := hj j h; exact fun e => by have e' : @Eq Nat _ _ := e; omega
  · have := hj j h; exact fun e => by have e' : @Eq Nat _ _ := e; omega
  · exact fun e => by have e' : @Eq Nat _ _ := e; omega
  · exact fun e => by have e' : @Eq Nat _ _ := e; omega
  · exact fun e => by have e' : @Eq Nat _ _ := e; omega
  · have := hj j h; exact fun e => by have e' : @Eq Nat _ _ := e; omega
  · subst h
    have := keysAt_len qs n
    rw [← hk] at this
    exact hne (List.length_eq_zero_iff.mp this.symm)
theorem getAt {h : Heap} {o : Obj} {n : Nat} (e : h.objs.size = n) (f : o.isFreed = false) : (h.push o).get? n = some o := by subst e; exact Heap.get?_push_size _ f
section
variable {prog : Program} {w : World} {A : Around} {E : Value → Shared → Prop} {s : Shared}
theorem SqH.lt {h : Heap} {q : Bool × Addr} (x : SqH h q) : @LT.lt Nat _ q.2 h.objs.size := by
  obtain ⟨xs, ⟨e, p, x, _⟩ | ⟨e, p, x, _⟩⟩ := x <;> exact Heap.lt_size x
theorem call_zipK {qs : List (Bool × Addr)} {Q : Value → Shared → Prop} (hq : ∀ q ∈ qs, SqH s.heap q) (hl : qs.length = 2 ∨ qs.length = 3 ∨ qs.length = 4)
    (h : ∀ h' m, m = s.heap.objs.size + qs.length → ZK h' (m + 2) m (m + 1) .none (keysAt s.heap.objs.size qs) 0 → (∀ c o, s.heap.get? c = some o → h'.get? c = some o) → Q (.ref (m + 2)) { s with heap := h' }) :
    wpAny (model prog w) A (call (.type "zip") (qs.map fun q => .ref q.2)) Q E s := by
  match qs, hl, hq, h with
  | [p, q], _, hq, h =>
    refine callType_new F.called_zip (by decide) (F.typeCall_zip_2 _ _) (F.newCall_zip_2 _ _) (fun obj => F.args_object_init_3 obj _ _) F.entry_zip_new (meets_zip2K p q) ⟨hq p (by simp), hq q (by simp), ?_⟩
    have z1 : (s.heap.push (itO p)).objs.size = s.heap.objs.size + 1 := Heap.size_push ..
    have z2 : ((s.heap.push (itO p)).push (itO q)).objs.size = s.heap.objs.size + 2 := by rw [Heap.size_push, z1]
    rw [z1]
    have e1 : ∀ (h : Heap) (o : Obj) (n : Nat), h.objs.size = n → (h.push o).objs.size = n + 1 := fun h o n z => by rw [Heap.size_push, z]
    refine ⟨⟨_, getAt (e1 _ _ _ (e1 _ _ _ z2)) rfl, rfl⟩, h _ (s.heap.objs.size + 2) rfl ⟨getAt (e1 _ _ _ (e1 _ _ _ z2)) rfl, Heap.get?_push_of_some _ (Heap.get?_push_of_some _ (getAt z2 rfl)), ⟨#[.none, .none], Heap.get?_push_of_some _ (getAt (e1 _ _ _ z2) rfl), rfl⟩, fun x hx => ?_⟩ fun c o x => ?_⟩
    · simp only [keysAt, List.mem_cons, List.not_mem_nil, or_false] at hx
      rcases hx with rfl | rfl
      · exact atK_new (Heap.get?_push_of_some _ (Heap.get?_push_of_some _ (Heap.get?_push_of_some _ (Heap.get?_push_of_some _ (Heap.get?_push_size _ rfl)))))
      · exact atK_new (Heap.get?_push_of_some _ (Heap.get?_push_of_some _ (Heap.get?_push_of_some _ (getAt z1 rfl))))
    · exact Heap.get?_push_of_some _ (Heap.get?_push_of_some _ (Heap.get?_push_of_some _ (Heap.get?_push_of_some _ (Heap.get?_push_of_some _ x))))
  | [p, q, r], _, hq, h =>
    refine callType_new F.called_zip (by decide) (typeCall_zip_3 _ _ _) (newCall_zip_3 _ _ _) (fun obj => args_object_init_4 obj _ _ _) F.entry_zip_new (meets_zip3K p q r) ⟨hq p (by simp), hq q (by simp), hq r (by simp), ?_⟩
    have z1 : (s.heap.push (itO p)).objs.size = s.heap.objs.size + 1 := Heap.size_push ..
    have z2 : ((s.heap.push (itO p)).push (itO q)).objs.size = s.heap.objs.size + 2 := by rw [Heap.size_push, z1]
    have z3 : (((s.heap.push (itO p)).push (itO q)).push (itO r)).objs.size = s.heap.objs.size + 3 := by rw [Heap.size_push, z2]
    have e1 : ∀ (h : Heap) (o : Obj) (n : Nat), h.objs.size = n → (h.push o).objs.size = n + 1 := fun h o n z => by rw [Heap.size_push, z]
    refine ⟨⟨_, getAt (e1 _ _ _ (e1 _ _ _ z3)) rfl, rfl⟩, h _ (s.heap.objs.size + 3) rfl ⟨getAt (e1 _ _ _ (e1 _ _ _ z3)) rfl, Heap.get?_push_of_some _ (Heap.get?_push_of_some _ (getAt z3 rfl)), ⟨#[.none, .none, .none], Heap.get?_push_of_some _ (getAt (e1 _ _ _ z3) rfl), rfl⟩, fun x hx => ?_⟩ fun c o x => ?_⟩
    · simp only [keysAt, List.mem_cons, List.not_mem_nil, or_false] at hx
      rcases hx with rfl | rfl | rfl
      · exact atK_new (Heap.get?_push_of_some _ (Heap.get?_push_of_some _ (Heap.get?_push_of_some _ (Heap.get?_push_of_some _ (Heap.get?_push_of_some _ (Heap.get?_push_size _ rfl))))))
      · exact atK_new (Heap.get?_push_of_some _ (Heap.get?_push_of_some _ (Heap.get?_push_of_some _ (Heap.get?_push_of_some _ (getAt z1 rfl)))))
      · exact atK_new (Heap.get?_push_of_some _ (Heap.get?_push_of_some _ (Heap.get?_push_of_some _ (getAt z2 rfl))))
    · exact Heap.get?_push_of_some _ (Heap.get?_push_of_some _ (Heap.get?_push_of_some _ (Heap.get?_push_of_some _ (Heap.get?_push_of_some _ (Heap.get?_push_of_some _ x)))))
  | [p, q, r, t], _, hq, h =>
    refine callType_new F.called_zip (by decide) (typeCall_zip_4 _ _ _ _) (newCall_zip_4 _ _ _ _) (fun obj => args_object_init_5 obj _ _ _ _) F.entry_zip_new (meets_zip4K p q r t) ⟨hq p (by simp), hq q (by simp), hq r (by simp), hq t (by simp), ?_⟩
    have z1 : (s.heap.push (itO p)).objs.size = s.heap.objs.size + 1 := Heap.size_push ..
    have z2 : ((s.heap.push (itO p)).push (itO q)).objs.size = s.heap.objs.size + 2 := by rw [Heap.size_push, z1]
    have z3 : (((s.heap.push (itO p)).push (itO q)).push (itO r)).objs.size = s.heap.objs.size + 3 := by rw [Heap.size_push, z2]
    have z4 : ((((s.heap.push (itO p)).push (itO q)).push (itO r)).push (itO t)).objs.size = s.heap.objs.size + 4 := by rw [Heap.size_push, z3]
    have e1 : ∀ (h : Heap) (o : Obj) (n : Nat), h.objs.size = n → (h.push o).objs.size = n + 1 := fun h o n z => by rw [Heap.size_push, z]
    refine ⟨⟨_, getAt (e1 _ _ _ (e1 _ _ _ z4)) rfl, rfl⟩, h _ (s.heap.objs.size + 4) rfl ⟨getAt (e1 _ _ _ (e1 _ _ _ z4)) rfl, Heap.get?_push_of_some _ (Heap.get?_push_of_some _ (getAt z4 rfl)), ⟨#[.none, .none, .none, .none], Heap.get?_push_of_some _ (getAt (e1 _ _ _ z4) rfl), rfl⟩, fun x hx => ?_⟩ fun c o x => ?_⟩
    · simp only [keysAt, List.mem_cons, List.not_mem_nil, or_false] at hx
      rcases hx with rfl | rfl | rfl | rfl
      · exact atK_new (Heap.get?_push_of_some _ (Heap.get?_push_of_some _ (Heap.get?_push_of_some _ (Heap.get?_push_of_some _ (Heap.get?_push_of_some _ (Heap.get?_push_of_some _ (Heap.get?_push_size _ rfl)))))))
      · exact atK_new (Heap.get?_push_of_some _ (Heap.get?_push_of_some _ (Heap.get?_push_of_some _ (Heap.get?_push_of_some _ (Heap.get?_push_of_some _ (getAt z1 rfl))))))
      · exact atK_new (Heap.get?_push_of_some _ (Heap.get?_push_of_some _ (Heap.get?_push_of_some _ (Heap.get?_push_of_some _ (getAt z2 rfl)))))
      · exact atK_new (Heap.get?_push_of_some _ (Heap.get?_push_of_some _ (Heap.get?_push_of_some _ (getAt z3 rfl))))
    · exact Heap.get?_push_of_some _ (Heap.get?_push_of_some _ (Heap.get?_push_of_some _ (Heap.get?_push_of_some _ (Heap.get?_push_of_some _ (Heap.get?_push_of_some _ (Heap.get?_push_of_some _ x))))))
end
section
variable {X : L2.Cx}
theorem SqK.hp {pins : List (Addr × Obj)} {σ : L2.St} {H : Hp} {s : Shared} (I : Inv X pins σ H s) {q : Bool × Addr} {xs : List V} (h : SqK X.K H q xs) : SqH s.heap q := by
  rcases h with ⟨e, h⟩ | ⟨e, h⟩
  · obtain ⟨its, rv, p, hz⟩ := I.list h
    exact ⟨_, .inl ⟨e, p.isList⟩⟩
  · obtain ⟨its, rv, p, hz⟩ := I.tuple h
    exact ⟨_, .inr ⟨e, (show s.heap.IsTuple q.2 its.toArray from p)⟩⟩
def iZip (K : PySem.W.Frag) (ta : TA) : TI := fun σ H R => ta σ H fun vs H1 => ∃ qs : List (Bool × Addr), vs = qs.map (fun q => .ref q.2) ∧ (qs.length = 2 ∨ qs.length = 3 ∨ qs.length = 4) ∧ (∀ q ∈ qs, ∃ xs, SqK K H1 q xs) ∧ R (Izp K qs) H1
theorem valsRefs : ∀ {qs : List (Bool × Addr)} {us : List Value}, Vals (qs.map fun q => V.ref q.2) us → us = qs.map fun q => Value.ref q.2
  | [], _, .nil => rfl
  | q :: qs, _, .cons r t => by rw [valsRefs t]; cases r; rfl
theorem pi_zip {a : Expr} {r : List Expr} {ta : TA} {p pos tpos : Pos} {elts : List Expr} {x1} (hg : Gl X "zip") (hm : X.mg "zip" = none) (ha : PA X (a :: r) ta) (hs : starEach (a :: r) X.env = (false, eval a X.env) :: starEach r X.env) (hp : ∀ pos, (backTo pos (starEach r X.env)).any (·.1) = false) :
    PI X (.Tuple elts x1 tpos) (.Call (.Name "zip" p) (a :: r) [] pos) (iZip X.K ta) := by
  intro pins s σ H R I h
  refine Call_ (ld_blt I hg hm (u := .type "zip") (by decide +kernel) (PyProof.Rows.callWith_type1 (thn (ha pos pins s σ H _ I h) fun us s1 ⟨vs, H1, I1, r1, q1⟩ => ?_) hs (hp _)))
  obtain ⟨qs, rfl, hl, hq, q⟩ := q1
  rw [valsRefs r1]
  have hqs : ∀ q ∈ qs, SqH s1.heap q := fun q hq' => by obtain ⟨xs, z⟩ := hq q hq'; exact z.hp I1
  refine call_zipK hqs hl fun h' m hm' hz hk => ?_
  refine wpAny_pyIter_zip hz.rc ?_
  have I2 : Inv X pins σ H1 { s1 with heap := h' } := I1.kept (t' := s1.toks) hk
  have hlen : qs.length ≤ 4 := by omega
  have hT := turn_zip (P := X.prog) (w := X.w) (K := X.K) (elts := elts) (x1 := x1) (pos := tpos) (ks := keysAt s1.heap.objs.size qs) (zapart (m := m) (fun q hq' => (hqs q hq').lt) (by intro z; subst z; simp at hl) hm') (by rw [keysAt_len]; omega)
  rw [keysAt_q] at hT
  refine ⟨_, _, _, _, H1, rfl, I2, hT, hz, fun b hb => ?_, q⟩
  have : @LE.le Nat _ s1.heap.objs.size b := by
    simp only [zfp, List.mem_cons] at hb
    rcases hb with rfl | rfl | rfl | hb
    · omega
    · omega
    · omega
    · obtain ⟨x, hx, rfl⟩ := List.mem_map.mp hb
      exact (keysAt_mem hx).1.1
  exact I1.fpOk this (I1.hok.fresh this)
end
end D
end
section
set_option Elab.async false
set_option linter.all false
set_option maxRecDepth 100000
set_option autoImplicit false
namespace D
open PySem PySem.Spec PyProof.Rows L2
def QS (X : L2.Cx) (cl : Nat → Addr) (src : Src) (q : Bool × Addr) (β0 : List Addr) (H0 : Hp) : Prop := ∀ (β : List Addr) (m : Mem) (H : Hp) (i : Nat), (∃ γ, β = β0 ++ γ) → (∀ {a : Addr} {vs : List V}, SqT X.K H0 a vs → SqT X.K H a vs) → (∀ {a : Addr} {vs : List V}, SqF X.K H0 a vs → SqF X.K H a vs) → Rel X.K cl β m H →
  src.get m i ≠ .bad → ∃ xs, SqK X.K H q xs ∧ (∀ w, src.get m i = .it w → ∃ v, xs[i]? = some v ∧ RW X.K β H w v) ∧ (src.get m i = .fin → xs.length ≤ i)
section
variable {X : L2.Cx} {cl : Nat → Addr} {C : D.Cx} {pos : Pos}
theorem qs_lst {n : Nat} {a : Addr} {β0 : List Addr} {H0 : Hp} (hb : β0[n]? = some a) : QS X cl (.lst n) (true, a) β0 H0 := by
  intro β m H i hβ _ _ r nb
  obtain ⟨γ, rfl⟩ := hβ
  have hb' : (β0 ++ γ)[n]? = some a := by rw [List.getElem?_append_left (List.getElem?_eq_some_iff.mp hb).1]; exact hb
  simp only [Src.get] at nb ⊢
  cases e1 : getL m (.ref n) with
  | none => rw [e1] at nb; exact absurd rfl nb
  | some xs =>
    obtain ⟨a', vs, z, hs, t⟩ := r.getL (.ref hb') e1
    cases z
    refine ⟨vs, .inl ⟨rfl, hs⟩, fun w e => ?_, fun e => ?_⟩
    · dsimp only at e
      split at e
      · rename_i w' e2
        cases e
        exact t.get e2
      · cases e
    · dsimp only at e
      split at e
      · cases e
      · rename_i e2
        rw [← t.length]
        exact List.getElem?_eq_none_iff.mp e2
theorem qs_seq {q : Bool × Addr} {ws : List W} {β0 : List Addr} {H0 : Hp} {vs : List V} (t0 : RWs X.K β0 H0 ws vs) (hq : ∀ {H : Hp}, (∀ {a : Addr} {vs : List V}, SqT X.K H0 a vs → SqT X.K H a vs) → (∀ {a : Addr} {vs : List V}, SqF X.K H0 a vs → SqF X.K H a vs) → SqK X.K H q vs) : QS X cl (.tup ws) q β0 H0 := by
  intro β m H i hβ ht hf r nb
  have t := t0.keep hβ ht hf
  simp only [Src.get] at nb ⊢
  refine ⟨vs, hq ht hf, fun w e => ?_, fun e => ?_⟩
  · split at e
    · rename_i w' e2
      cases e
      exact t.get e2
    · cases e
  · split at e
    · cases e
    · rename_i e2
      rw [← t.length]
      exact List.getElem?_eq_none_iff.mp e2
inductive QSs (X : L2.Cx) (cl : Nat → Addr) (β : List Addr) (H : Hp) : List Src → List (Bool × Addr) → Prop
  | nil : QSs X cl β H [] []
  | cons {s : Src} {q : Bool × Addr} {ss : List Src} {qs : List (Bool × Addr)} : QS X cl s q β H → QSs X cl β H ss qs → QSs X cl β H (s :: ss) (q :: qs)
theorem srcs_of {β : List Addr} {m : Mem} {H : Hp} (r : Rel X.K cl β m H) : ∀ {ws : List W} {vs : List V} {ss : List Src}, RWs X.K β H ws vs → srcsOf m ws = some ss → ∃ qs : List (Bool × Addr), vs = qs.map (fun q => V.ref q.2) ∧ QSs X cl β H ss qs ∧ ∀ q ∈ qs, ∃ xs, SqK X.K H q xs
  | _, _, _, .nil, e => by cases e; exact ⟨[], rfl, .nil, by simp⟩
  | _, _, _, .cons q t, e => by
    simp only [srcsOf] at e
    split at e
    · cases e
    · rename_i s e1
      split at e
      · cases e
      · rename_i ss e2
        cases e
        obtain ⟨qs, rfl, h1, h2⟩ := srcs_of r t e2
        obtain ⟨a, rfl, h⟩ := src_of r q e1
        rcases h with ⟨n, vs, rfl, rfl, hb, hs⟩ | ⟨ws, vs, rfl, rfl, hs, t'⟩ | ⟨ws, vs, rfl, rfl, hs, t'⟩
        · refine ⟨(true, a) :: qs, rfl, .cons (qs_lst hb) h1, fun q hq => ?_⟩
          rcases List.mem_cons.mp hq with rfl | hq
          · exact ⟨vs, .inl ⟨rfl, hs⟩⟩
          · exact h2 q hq
        · refine ⟨(true, a) :: qs, rfl, .cons (qs_seq t' fun _ hf => .inl ⟨rfl, (hf hs).l⟩) h1, fun q hq => ?_⟩
          rcases List.mem_cons.mp hq with rfl | hq
          · exact ⟨vs, .inl ⟨rfl, hs.l⟩⟩
          · exact h2 q hq
        · refine ⟨(false, a) :: qs, rfl, .cons (qs_seq t' fun ht _ => .inr ⟨rfl, ht hs⟩) h1, fun q hq => ?_⟩
          rcases List.mem_cons.mp hq with rfl | hq
          · exact ⟨vs, .inr ⟨rfl, hs⟩⟩
          · exact h2 q hq
theorem gets_ok {β0 β : List Addr} {m : Mem} {H0 H : Hp} {i : Nat} (hβ : ∃ γ, β = β0 ++ γ) (ht : ∀ {a : Addr} {vs : List V}, SqT X.K H0 a vs → SqT X.K H a vs) (hf : ∀ {a : Addr} {vs : List V}, SqF X.K H0 a vs → SqF X.K H a vs) (r : Rel X.K cl β m H) : ∀ {ss : List Src} {qs : List (Bool × Addr)}, QSs X cl β0 H0 ss qs →
    (Src.gets ss m i ≠ .bad → ∀ q ∈ qs, ∃ xs, SqK X.K H q xs) ∧
    (∀ ws, Src.gets ss m i = .its ws → (∀ q ∈ qs, ∃ xs v, SqK X.K H q xs ∧ xs[i]? = some v) ∧ ∀ vs, Paired (fun q v => ∀ xs, SqK X.K H q xs → xs[i]? = some v) qs vs → RWs X.K β H ws vs) ∧
    (Src.gets ss m i = .fin → ∃ pre q post, qs = pre ++ q :: post ∧ (∀ p ∈ pre, ∃ xs v, SqK X.K H p xs ∧ xs[i]? = some v) ∧ ∃ xs, SqK X.K H q xs ∧ xs.length ≤ i)
  | _, _, .nil => by
    refine ⟨fun _ q hq => (nomatch hq), fun ws e => ?_, fun e => ?_⟩
    · unfold Src.gets at e; cases e; exact ⟨by simp, fun vs p => by cases p; exact .nil⟩
    · unfold Src.gets at e; cases e
  | _, _, .cons (s := s) (q := q) (ss := ss) (qs := qs) h t => by
    obtain ⟨i1, i2, i3⟩ := gets_ok hβ ht hf r t
    simp only [Src.gets]
    cases e1 : s.get m i with
    | bad => refine ⟨fun z => absurd (by simp) z, fun ws e => by simp at e, fun e => by simp at e⟩
    | fin =>
      obtain ⟨xs, x1, x2, x3⟩ := h β m H i hβ ht hf r (by rw [e1]; intro z; cases z)
      cases e2 : Src.gets ss m i with
      | bad => refine ⟨fun z => absurd (by simp) z, fun ws e => by simp at e, fun e => by simp at e⟩
      | fin =>
        refine ⟨fun _ p hp => ?_, fun ws e => by simp at e, fun _ => ⟨[], q, qs, rfl, by simp, xs, x1, x3 e1⟩⟩
        rcases List.mem_cons.mp hp with rfl | hp
        · exact ⟨xs, x1⟩
        · exact i1 (by rw [e2]; intro z; cases z) p hp
      | its ws =>
        refine ⟨fun _ p hp => ?_, fun ws e => by simp at e, fun _ => ⟨[], q, qs, rfl, by simp, xs, x1, x3 e1⟩⟩
        rcases List.mem_cons.mp hp with rfl | hp
        · exact ⟨xs, x1⟩
        · exact i1 (by rw [e2]; intro z; cases z) p hp
    | it w =>
      obtain ⟨xs, x1, x2, x3⟩ := h β m H i hβ ht hf r (by rw [e1]; intro z; cases z)
      obtain ⟨v, v1, v2⟩ := x2 w e1
      cases e2 : Src.gets ss m i with
      | bad => refine ⟨fun z => absurd (by simp) z, fun ws e => by simp at e, fun e => by simp at e⟩
      | fin =>
        refine ⟨fun _ p hp => ?_, fun ws e => by simp at e, fun _ => ?_⟩
        · rcases List.mem_cons.mp hp with rfl | hp
          · exact ⟨xs, x1⟩
          · exact i1 (by rw [e2]; intro z; cases z) p hp
        · obtain ⟨pre, p, post, rfl, h1, h2⟩ := i3 e2
          refine ⟨q :: pre, p, post, rfl, fun p' hp' => ?_, h2⟩
          rcases List.mem_cons.mp hp' with rfl | hp'
          · exact ⟨xs, v, x1, v1⟩
          · exact h1 p' hp'
      | its ws =>
        obtain ⟨j1, j2⟩ := i2 ws e2
        refine ⟨fun _ p hp => ?_, fun ws' e => ?_, fun e => by simp at e⟩
        · rcases List.mem_cons.mp hp with rfl | hp
          · exact ⟨xs, x1⟩
          · exact i1 (by rw [e2]; intro z; cases z) p hp
        · simp only [Nxs.its.injEq] at e
          subst e
          refine ⟨fun p hp => ?_, fun vs p => ?_⟩
          · rcases List.mem_cons.mp hp with rfl | hp
            · exact ⟨xs, v, x1, v1⟩
            · exact j1 p hp
          · cases p with
            | cons y p =>
              have := y xs x1
              rw [v1] at this
              cases this
              exact .cons v2 (j2 _ p)
theorem is_zip {ss : List Src} {qs : List (Bool × Addr)} {β0 : List Addr} {H0 : Hp} (h : QSs X cl β0 H0 ss qs) : IS X cl (Izp X.K qs) (.zip ss) β0 H0 := by
  intro β m H i hβ ht hf r
  obtain ⟨i1, i2, i3⟩ := gets_ok (i := i) hβ ht hf r h
  refine ⟨fun w e => ?_, fun e => ?_⟩
  · simp only [Src.get] at e
    split at e
    · rename_i ws e1
      cases e
      obtain ⟨j1, j2⟩ := i2 ws e1
      refine ⟨j1, fun x H' y => ?_⟩
      obtain ⟨p, vs, hp, rfl, rfl, hv⟩ := y
      obtain ⟨x2, r2⟩ := r.newT hp vs
      exact ⟨x2, r2, .tup (.of upd_same) ((j2 vs hv).mono r x2)⟩
    · cases e
    · cases e
  · simp only [Src.get] at e
    split at e
    · cases e
    · rename_i e1
      exact ⟨i1 (by rw [e1]; intro z; cases z), i3 e1⟩
    · cases e
theorem i_zip {a : Expr} {es : List Expr} {ds : Es} {p tpos : Pos} {elts : List Expr} {x1} (hg : Gl X "zip") (hm : X.mg "zip" = none) (ha : PA X (a :: es) (SA X cl (evEs C ds))) (hl : ∀ ρ m ws m', evEs C ds ρ m = .ok ws m' → ws.length = 2 ∨ ws.length = 3 ∨ ws.length = 4)
    (hs : starEach (a :: es) X.env = (false, eval a X.env) :: starEach es X.env) (hp : ∀ pos, (backTo pos (starEach es X.env)).any (·.1) = false) : PI X (.Tuple elts x1 tpos) (.Call (.Name "zip" p) (a :: es) [] pos) (SI X cl (evI C (.zip ds))) := by
  refine PI.imp (pi_zip hg hm ha hs hp) ?_
  rintro σ H Rr ⟨β, ρ, m, src, m', r, l, e, k⟩
  simp only [evI] at e
  obtain ⟨ws, m1, e1, e⟩ := R.bind_ok e
  split at e
  · rename_i ss e2
    cases e
    refine ⟨β, ρ, m, ws, _, r, l, e1, fun β1 H1 vs x1 r1 q1 => ?_⟩
    obtain ⟨qs, rfl, h1, h2⟩ := srcs_of r1 q1 e2
    have hlen := hl _ _ _ _ e1
    have := q1.length
    simp only [List.length_map] at this
    exact ⟨qs, rfl, by omega, h2, k _ _ _ x1 r1 (is_zip h1)⟩
  · cases e
end
end D
end
section
set_option Elab.async false
set_option linter.all false
set_option maxRecDepth 100000
set_option autoImplicit false
namespace D
open PySem PySem.Spec PyProof.Rows L2
structure Ci where
  N : List Str
  names : List (Str × NameKind)
  fns : List (Str × (Nat × Nat))
  gl : List (Str × W)
def ixOf (x : Str) : List Str → Option Nat
  | [] => none
  | y :: r => if y = x then some 0 else (ixOf x r).map (· + 1)
theorem ixOf_get {x : Str} : ∀ {N : List Str} {i : Nat}, ixOf x N = some i → N[i]? = some x
  | [], _, h => by cases h
  | y :: r, i, h => by
    unfold ixOf at h
    split at h
    · rename_i e; cases h; simp [e]
    · simp only [Option.map_eq_some_iff] at h
      obtain ⟨j, h1, rfl⟩ := h
      simpa using ixOf_get h1
def bltTab : List (Str × B) := [("len", .len), ("abs", .abs), ("max", .max), ("min", .min), ("divmod", .divmod), ("all", .all), ("any", .any), ("list", .list), ("tuple", .tuple), ("int", .int), ("sorted", .sorted)]
def tyTab : List (Str × String) := [("int", "int"), ("bool", "bool"), ("str", "str"), ("list", "list"), ("tuple", "tuple"), ("dict", "dict")]
def bnames : List Str := ["len", "abs", "max", "min", "divmod", "all", "any", "list", "tuple", "int", "bool", "str", "dict", "isinstance", "range", "enumerate", "zip", "sorted"]
def mtTab : List (Str × (String × String)) := [("append", ("append", "list.append")), ("clear", ("clear", "list.clear")), ("reverse", ("reverse", "list.reverse")), ("pop", ("pop", "list.pop")), ("extend", ("extend", "list.extend")), ("insert", ("insert", "list.insert"))]
def noStar : Expr → Bool
  | .Starred .. => false
  | _ => true
def isSlice : Expr → Bool
  | .Slice .. => true
  | _ => false
def isSet : Expr → Bool
  | .Set .. => true
  | _ => false
def isComp : Expr → Bool
  | .ListComp .. => true
  | .SetComp .. => true
  | .DictComp .. => true
  | _ => false
def isCall0 : Expr → Bool
  | .Call (.Name _ _) [] [] _ => true
  | _ => false
def isNameE : Expr → Bool
  | .Name .. => true
  | _ => false
def isTupE : Expr → Bool
  | .Tuple .. => true
  | .List .. => true
  | _ => false
def isIt : E → Bool
  | .rng _ => true
  | .rng2 _ _ => true
  | .enm _ => true
  | .zip _ => true
  | _ => false
def special (x : Str) : Bool := x == "__debug__" || x == "__classdict__" || x == "__name__"
def cEs (f : Expr → Option E) : List Expr → Option Es
  | [] => some .nil
  | e :: es => if noStar e then match f e with
    | none => none
    | some d => match cEs f es with
      | none => none
      | some ds => some (.cons d ds) else none
def cBs (f : Expr → Option E) (op : BoolOp) : List Expr → Option E
  | [] => none
  | [e] => f e
  | e :: r => match f e with
    | none => none
    | some d => match cBs f op r with
      | none => none
      | some ds => match op with
        | .And => some (.and d ds)
        | .Or => some (.or d ds)
def cO (f : Expr → Option E) : Option Expr → Option Oe
  | none => some .none
  | some e => (f e).map .some
def cName (c : Ci) (x : Str) : Option E := if special x then none else match c.names.lookup x with
  | some .local => (ixOf x c.N).map .var
  | some .cell => (ixOf x c.N).map .var
  | some .free => (ixOf x c.N).map .var
  | some .globalImplicit => (c.gl.lookup x).map .cst
  | _ => none
def tslot (c : Ci) (x : Str) : Option Nat := match c.names.lookup x with
  | some .local => ixOf x c.N
  | some .cell => ixOf x c.N
  | _ => none
def cTs (f : Expr → Option T) : List Expr → Option Ts
  | [] => some .nil
  | e :: es => if noStar e then match f e with
    | none => none
    | some d => match cTs f es with
      | none => none
      | some ds => some (.cons d ds) else none
def cT : Nat → Ci → Expr → Option T
  | 0, _, _ => none
  | n + 1, c, e => match e with
    | .Name x _ => (tslot c x).map .var
    | .Tuple es _ _ => (cTs (cT n c) es).map .tup
    | _ => none
def cI (f : Expr → Option E) (c : Ci) (tg e : Expr) : Option E := match e with
  | .Call (.Name x _) args kws _ => if kws.isEmpty && c.names.lookup x == some .globalImplicit && (c.fns.lookup x).isNone && !special x then
      if x = "range" then match args with
        | [a] => if noStar a then (f a).map .rng else none
        | [a, b] => if noStar a && noStar b then match f a, f b with
          | some d, some d' => some (.rng2 d d')
          | _, _ => none else none
        | _ => none
      else if x = "enumerate" then match tg, args with
        | .Tuple _ _ _, [a] => if noStar a then (f a).map .enm else none
        | _, _ => none
      else if x = "zip" then match tg, args with
        | .Tuple _ _ _, a :: r => if r.length = 1 ∨ r.length = 2 ∨ r.length = 3 then (cEs f (a :: r)).map .zip else none
        | _, _ => none
      else match f e with
        | some d => if isIt d then none else some d
        | none => none
    else match f e with
      | some d => if isIt d then none else some d
      | none => none
  | e => match f e with
    | some d => if isIt d then none else some d
    | none => none
def cIfs (f : Expr → Option E) : List Expr → Option Es
  | [] => some .nil
  | [e] => (f e).map fun d => .cons d .nil
  | _ => none
def cGs (f : Expr → Option E) (n : Nat) (c : Ci) (elt : Expr) : List Comprehension → Option G
  | [] => (f elt).map .elt
  | ⟨tg, it, ifs, as⟩ :: gs => if as = 0 ∧ isSet it = false then match cT n c tg, cI f c tg it, cIfs f ifs, cGs f n c elt gs with
    | some t, some d, some ds, some g => some (.gen t [] d ds g)
    | _, _, _, _ => none else none
def ownJs (N : List Str) (names : List (Str × NameKind)) : List Nat := (N.zipIdx.filter fun p => names.lookup p.1 == some .local).map (·.2)
def compOk (N : List Str) (scope : Scope) (onames : List (Str × NameKind)) : Bool :=
  decide (scope.kind = .function) && scope.names.all fun y => decide (y.2 ≠ .cell) && (decide (y.2 ≠ .local) || decide (scope.names.lookup y.1 = some .local)) && (decide (y.2 ≠ .free) || decide (onames.lookup y.1 = some .cell) || decide (onames.lookup y.1 = some .free))
def isLrng (x : Str) (args : List Expr) : Option Expr := if x = "list" then match args with
    | [.Call (.Name y _) [a] [] _] => if y = "range" then some a else none
    | _ => none else none
def cE : Nat → Ci → Expr → Option E
  | 0, _, _ => none
  | n + 1, c, e => match e with
    | .Name x _ => cName c x
    | .Constant k _ _ => match k with
      | .int i => some (.cst (.int i))
      | .bool b => some (.cst (.bl b))
      | .none => some (.cst .non)
      | .str x => some (.cst (.str x))
      | _ => none
    | .BinOp a op b _ => match cE n c a, cE n c b with
      | some d, some d' => some (.bin op d d')
      | _, _ => none
    | .UnaryOp op a _ => match op with
      | .USub => (cE n c a).map .neg
      | .Not => (cE n c a).map .not
      | _ => none
    | .BoolOp op vs _ => cBs (cE n c) op vs
    | .Compare a ops bs _ => match ops, bs with
      | [op], [b] => if behindInMarks op b then none else match cE n c a, cE n c b with
        | some d, some d' => some (.cmp op d d')
        | _, _ => none
      | [o1, o2], [b, b'] => if lastMarks [o1, o2] [b, b'] then none else match cE n c a, cE n c b, cE n c b' with
        | some d, some d', some d'' => some (.chain o1 o2 d d' d'')
        | _, _, _ => none
      | _, _ => none
    | .IfExp t a b _ => match cE n c t, cE n c a, cE n c b with
      | some d, some d', some d'' => some (.ife d d' d'')
      | _, _, _ => none
    | .Tuple es _ _ => (cEs (cE n c) es).map .tup
    | .List es _ => (cEs (cE n c) es).map .lst
    | .Subscript a s _ => match s with
      | .Slice lo hi st _ => match st with
        | none => match cE n c a, cO (cE n c) lo, cO (cE n c) hi with
          | some d, some l, some h => some (.slc d l h)
          | _, _, _ => none
        | some _ => none
      | s => if isSlice s then none else match cE n c a, cE n c s with
        | some d, some d' => some (.idx d d')
        | _, _ => none
    | .Call f args kws pos => if kws.isEmpty then match f with
        | .Name x _ => if special x then none else if c.names.lookup x = some .globalImplicit then match c.fns.lookup x with
            | some (i, np) => match args with
              | [] => none
              | a :: r => if args.length = np then (cEs (cE n c) (a :: r)).map (.call i) else none
            | none => match isLrng x args with
              | some a => if noStar a && c.names.lookup ("range" : Str) == some .globalImplicit && (c.fns.lookup ("range" : Str)).isNone then (cE n c a).map .lrng else none
              | none => match bltTab.lookup x with
              | some b => match args with
                | [] => none
                | a :: r => (cEs (cE n c) (a :: r)).map (.blt b)
              | none => if x = "isinstance" then match args with
                  | [a, .Name t _] => if special t then none else if noStar a && c.names.lookup t == some .globalImplicit then match tyTab.lookup t, cE n c a with
                    | some tn, some d => some (.isI d tn)
                    | _, _ => none else none
                  | _ => none
                else none
          else none
        | .Attribute o m apos => if isCall0 o then none else if (apos.endLine == pos.line) then match mtTab.lookup m, cE n c o with
            | some (nm, _), some d => if args.length < 20 then (cEs (cE n c) args).map (.meth d nm) else none
            | _, _ => none
          else none
        | _ => none
      else none
    | .ListComp elt gens scope _ => match gens with
      | [] => none
      | ⟨tg, it, ifs, as⟩ :: gs =>
        let c' : Ci := { c with names := scope.names }
        if as = 0 ∧ isSet it = false ∧ compOk c.N scope c.names = true then match cT n c' tg, cI (cE n c) c tg it, cIfs (cE n c') ifs, cGs (cE n c') n c' elt gs with
          | some t, some d, some ds, some g => some (.comp (.gen t (ownJs c.N scope.names) d ds g))
          | _, _, _, _ => none
        else none
    | _ => none
def cAs (f : Expr → Option A) : List Expr → Option As
  | [] => some .nil
  | e :: es => if noStar e then match f e with
    | none => none
    | some d => match cAs f es with
      | none => none
      | some ds => some (.cons d ds) else none
def cA : Nat → Ci → Expr → Option A
  | 0, _, _ => none
  | n + 1, c, e => match e with
    | .Name x _ => (tslot c x).map fun i => .pt (.var i)
    | .Tuple es _ _ => (cAs (cA n c) es).map .tup
    | .Subscript o i _ => if isSlice i then none else match cE n c o, cE n c i with
      | some d, some d' => some (.sub d d')
      | _, _ => none
    | _ => none
def cSs (f : Stmt → Option S) : List Stmt → Option Ss
  | [] => some .nil
  | s :: r => match f s with
    | none => none
    | some d => match cSs f r with
      | none => none
      | some ds => some (.cons d ds)
def cS : Nat → Ci → Stmt → Option S
  | 0, _, _ => none
  | n + 1, c, s => match s with
    | .Assign [.Name x _] v _ => match tslot c x, cE n c v with
      | some i, some d => some (.asg (.pt (.var i)) d)
      | _, _ => none
    | .Assign [.Tuple [.Name x px, .Name y py] kt pt] (.Tuple [a, b] k2 pt2) _ => if px.line == py.line && c.names.lookup x == some .local && c.names.lookup y == some .local && x != y && noStar a && noStar b && !([a, b].all (foldedForSure 8)) && !([a, b].all (constantsAlone 8)) then
        match tslot c x, tslot c y, cE n c a, cE n c b with
        | some i, some j, some d, some d' => some (.asg (.pt (.tup (.cons (.var i) (.cons (.var j) .nil)))) (.tup (.cons d (.cons d' .nil))))
        | _, _, _, _ => none else none
    | .Assign [tg] v _ => if (isTupE tg && isTupE v) || isNameE tg || !noStar tg then none else match cA n c tg, cE n c v with
      | some t, some d => some (.asg t d)
      | _, _ => none
    | .AugAssign (.Name x _) op v _ => if op = .Add ∨ op = .Sub then match tslot c x, cE n c v with
      | some i, some d => some (.aug i op d)
      | _, _ => none else none
    | .Expr v _ => if isComp v then none else (cE n c v).map .expr
    | .Return (some v) _ => (cE n c v).map .ret
    | .Return none _ => some .retN
    | .If t a b _ => match cE n c t, cSs (cS n c) a, cSs (cS n c) b with
      | some d, some x, some y => some (.ife d x y)
      | _, _, _ => none
    | .For tg it body [] _ => if isSet it then none else match cT n c tg, cI (cE n c) c tg it, cSs (cS n c) body with
      | some t, some d, some x => some (.for_ t d x)
      | _, _, _ => none
    | .While t body [] _ => match cE n c t, cSs (cS n c) body with
      | some d, some x => some (.while_ d x)
      | _, _ => none
    | .Pass _ => some .pass
    | .Break _ => some .brk
    | .Continue _ => some .cont
    | .Raise _ _ _ => some .never
    | _ => none
end D
end
section
set_option Elab.async false
set_option linter.all false
set_option maxRecDepth 100000
set_option autoImplicit false
namespace D
open PySem PySem.Spec PyProof.Rows L2
structure Ok (X : L2.Cx) (cl : Nat → Addr) (C : D.Cx) (c : Ci) : Prop where
  N : X.N = c.N
  nd : c.N.Nodup
  vis : ∀ {x : Str} {k : NameKind}, c.names.lookup x = some k → (k = .local ∨ k = .cell ∨ k = .free) → Vis X.env.scope x
  loc : ∀ {x : Str} {k : NameKind}, c.names.lookup x = some k → (k = .local ∨ k = .cell) → L2.Loc X.env.scope x ∧ (X.fn x = true ∨ X.env.scope.names.lookup x = some .local)
  cel : ∀ {x : Str}, (c.names.lookup x = some .cell ∨ c.names.lookup x = some .free) → X.env.scope.names.lookup x = some .cell ∨ X.env.scope.names.lookup x = some .free
  glb : ∀ {x : Str}, c.names.lookup x = some .globalImplicit → Gl X x
  calm : X.calm = true
  units : X.A.units + 64 < cLine
  hand : X.A.handled = none
  blt : ∀ x ∈ bnames, X.mg x = none
  fn : ∀ {x : Str} {i np : Nat}, c.fns.lookup x = some (i, np) → ∃ (k : Nat) (fa : Addr) (fd : FuncData) (ps : List Str), ps.length = np ∧ Room k X.A ∧ X.mg x = some (.ref fa) ∧ PySem.W.keepIn X.K (.ref fa) = true ∧ Binds X.K fd ps [] ∧ FnOk X.prog X.w X.K X.mg X.base CX0 k fa fd ps (spD X.K cl ps.length (C.call i))
  gl : ∀ {x : Str} {w : W}, c.gl.lookup x = some w → ∃ u v, X.mg x = some u ∧ RelV v u ∧ ∀ β H, RW X.K β H w v
section
variable {env : Env}
theorem star_ok {e : Expr} {es : List Expr} (h : noStar e = true) : starEach (e :: es) env = (false, eval e env) :: starEach es env := by
  cases e <;> first | rfl | cases h
theorem cEs_star {f : Expr → Option E} {pos : Pos} : ∀ {es : List Expr} {ds : Es}, cEs f es = some ds → (backTo pos (starEach es env)).any (·.1) = false
  | [], _, _ => rfl
  | e :: es, ds, h => by
    unfold cEs at h
    split at h
    · rename_i hs
      split at h
      · cases h
      · split at h
        · cases h
        · rename_i ds' h2
          rw [star_ok hs]
          show ((false || (backTo pos (starEach es env)).any (·.1))) = false
          rw [cEs_star h2]; rfl
    · cases h
theorem cEs_all {f : Expr → Option E} {pos : Pos} : ∀ {es : List Expr} {ds : Es}, cEs f es = some ds → (backTo pos (starEach es env)).all (fun x => !x.1) = true
  | [], _, _ => rfl
  | e :: es, ds, h => by
    unfold cEs at h
    split at h
    · rename_i hs
      split at h
      · cases h
      · split at h
        · cases h
        · rename_i ds' h2
          rw [star_ok hs]
          show ((true && (backTo pos (starEach es env)).all (fun x => !x.1))) = true
          rw [cEs_all h2]; rfl
    · cases h
theorem cEs_hd {f : Expr → Option E} {e : Expr} {es : List Expr} {ds : Es} (h : cEs f (e :: es) = some ds) : noStar e = true ∧ ∃ d ds', f e = some d ∧ cEs f es = some ds' ∧ ds = .cons d ds' := by
  unfold cEs at h
  split at h
  · rename_i hs
    split at h
    · cases h
    · rename_i d h1
      split at h
      · cases h
      · rename_i ds' h2
        cases h
        exact ⟨hs, d, ds', h1, h2, rfl⟩
  · cases h
theorem asg_each {e : Expr} {es : List Expr} (h : noStar e = true) : assignEach (e :: es) env = (false, assign e env) :: assignEach es env := by
  cases e <;> first | rfl | cases h
theorem plainIx {b : Expr} (h : isSlice b = false) : PlainIx b := by
  intro o i
  cases b <;> first | rfl | cases h
theorem base_ok {o : Expr} {m : Str} (h : isCall0 o = false) : attributeBase o m env (eval o env) = eval o env := by
  unfold attributeBase
  split
  · cases h
  · rfl
theorem set_ok {e : Expr} (h : isSet e = false) (x : Value) : foldedSetIterable e env x = pure x := by
  cases e <;> first | rfl | cases h
theorem swap_no {v : Expr} {t : Option Expr} {l : Nat} (h : isComp v = false) : swapsWith v t l env = pure false := by
  cases v <;> first | rfl | cases h
def Es.len : Es → Nat
  | .nil => 0
  | .cons _ r => r.len + 1
theorem cEs_len {f : Expr → Option E} : ∀ {es : List Expr} {ds : Es}, cEs f es = some ds → ds.len = es.length
  | [], _, h => by cases h; rfl
  | e :: es, ds, h => by
    obtain ⟨_, d, ds', _, h2, rfl⟩ := cEs_hd h
    show ds'.len + 1 = _
    rw [cEs_len h2]; rfl
theorem evEs_len {C : D.Cx} : ∀ {ds : Es} {ρ : Loc} {m m' : Mem} {ws : List W}, evEs C ds ρ m = .ok ws m' → ws.length = ds.len
  | .nil, _, _, _, _, h => by simp only [evEs] at h; cases h; rfl
  | .cons d ds, _, _, _, _, h => by
    simp only [evEs] at h
    obtain ⟨w, m1, h1, h⟩ := R.bind_ok h
    obtain ⟨ws, m2, h2, h⟩ := R.bind_ok h
    cases h
    rw [List.length_cons, evEs_len h2]; rfl
end
theorem lookup_mem {β : Type} {x : Str} {b : β} : ∀ {l : List (Str × β)}, l.lookup x = some b → (x, b) ∈ l := fun {l} h => PySem.mem_of_lookup h
theorem bltTab_ok {x : Str} {b : B} (h : bltTab.lookup x = some b) : x ∈ bnames ∧ ((∃ id, bval b = .builtin id ∧ bootBuiltins x = some (.builtin id)) ∨ ∃ id, bval b = .type id ∧ bootBuiltins x = some (.type id)) := by
  have hm := lookup_mem h
  simp only [bltTab, List.mem_cons, Prod.mk.injEq, List.not_mem_nil, or_false] at hm
  rcases hm with ⟨rfl, rfl⟩ | ⟨rfl, rfl⟩ | ⟨rfl, rfl⟩ | ⟨rfl, rfl⟩ | ⟨rfl, rfl⟩ | ⟨rfl, rfl⟩ | ⟨rfl, rfl⟩ | ⟨rfl, rfl⟩ | ⟨rfl, rfl⟩ | ⟨rfl, rfl⟩ | ⟨rfl, rfl⟩
  all_goals first
    | exact ⟨by decide +kernel, .inl ⟨_, rfl, by decide +kernel⟩⟩
    | exact ⟨by decide +kernel, .inr ⟨_, rfl, by decide +kernel⟩⟩
theorem tyTab_ok {x : Str} {b : String} (h : tyTab.lookup x = some b) : x ∈ bnames ∧ b ∈ tyNames ∧ bootBuiltins x = some (.type b) := by
  have hm := lookup_mem h
  simp only [tyTab, List.mem_cons, Prod.mk.injEq, List.not_mem_nil, or_false] at hm
  rcases hm with ⟨rfl, rfl⟩ | ⟨rfl, rfl⟩ | ⟨rfl, rfl⟩ | ⟨rfl, rfl⟩ | ⟨rfl, rfl⟩ | ⟨rfl, rfl⟩
  all_goals exact ⟨by decide +kernel, by decide, by decide +kernel⟩
theorem mtTab_ok {X : L2.Cx} {cl : Nat → Addr} {m : Str} {nm id : String} (h : mtTab.lookup m = some (nm, id)) : Slot "list" m id ∧ typeOf (.builtin id) = pure (.type "method_descriptor") ∧ MtR X id (SM X cl nm) := by
  have hm := lookup_mem h
  simp only [mtTab, List.mem_cons, Prod.mk.injEq, List.not_mem_nil, or_false] at hm
  rcases hm with ⟨rfl, rfl, rfl⟩ | ⟨rfl, rfl, rfl⟩ | ⟨rfl, rfl, rfl⟩ | ⟨rfl, rfl, rfl⟩ | ⟨rfl, rfl, rfl⟩ | ⟨rfl, rfl, rfl⟩
  · exact ⟨PySem.F.slot_list_append, PySem.F.type_list_append, sm_append⟩
  · exact ⟨PySem.F.slot_list_clear, PySem.F.type_list_clear, sm_clear⟩
  · exact ⟨PySem.F.slot_list_reverse, PySem.F.type_list_reverse, sm_reverse⟩
  · exact ⟨PySem.F.slot_list_pop, PySem.F.type_list_pop, sm_pop⟩
  · exact ⟨PySem.F.slot_list_extend, PySem.F.type_list_extend, sm_extend⟩
  · exact ⟨PySem.F.slot_list_insert, PySem.F.type_list_insert, sm_insert⟩
theorem special_ok {x : Str} (h : special x = false) : (x == ("__debug__" : Str)) = false ∧ (x == ("__classdict__" : Str)) = false ∧ x ≠ "__name__" := by
  unfold special at h
  simp only [Bool.or_eq_false_iff] at h
  exact ⟨h.1.1, h.1.2, by simpa using h.2⟩
section
variable {X : L2.Cx} {cl : Nat → Addr} {C : D.Cx} {c : Ci}
theorem Ok.slot (o : Ok X cl C c) {x : Str} {i : Nat} (h : ixOf x c.N = some i) : X.N[i]? = some x := by rw [o.N]; exact ixOf_get h
theorem name_ok (o : Ok X cl C c) {x : Str} {pos : Pos} {d : E} (h : cName c x = some d) : PE X (.Name x pos) (SE X cl (evE C d)) ∧ ∀ ρ m, evT C d ρ m = (evE C d ρ m).bind fun w m => D.truthy m w := by
  unfold cName at h
  split at h
  · cases h
  · rename_i hs
    obtain ⟨h1, h2, h3⟩ := special_ok (by simpa using hs)
    split at h
    · rename_i hk
      simp only [Option.map_eq_some_iff] at h
      obtain ⟨i, hi, rfl⟩ := h
      exact ⟨s_var (o.slot hi) (o.vis hk (.inl rfl)) h1 h2, fun _ _ => by simp only [evT, evE]⟩
    · rename_i hk
      simp only [Option.map_eq_some_iff] at h
      obtain ⟨i, hi, rfl⟩ := h
      exact ⟨s_var (o.slot hi) (o.vis hk (.inr (.inl rfl))) h1 h2, fun _ _ => by simp only [evT, evE]⟩
    · rename_i hk
      simp only [Option.map_eq_some_iff] at h
      obtain ⟨i, hi, rfl⟩ := h
      exact ⟨s_var (o.slot hi) (o.vis hk (.inr (.inr rfl))) h1 h2, fun _ _ => by simp only [evT, evE]⟩
    · rename_i hk
      simp only [Option.map_eq_some_iff] at h
      obtain ⟨w, hw, rfl⟩ := h
      exact ⟨s_glb (o.glb hk) (o.gl hw) h1, fun _ _ => by simp only [evT, evE]⟩
    · cases h
def Tells (X : L2.Cx) (cl : Nat → Addr) (C : D.Cx) (e : Expr) (d : E) : Prop := PE X e (SE X cl (evE C d)) ∧ PT X e (ST X cl (evT C d))
theorem tells_val {e : Expr} {d : E} (h : PE X e (SE X cl (evE C d))) (he : ∀ whole, isTrue e X.env whole = (do let v ← whole; standAt e.pos; holding [v] (PySem.truthy v))) (hd : ∀ ρ m, evT C d ρ m = (evE C d ρ m).bind fun w m => D.truthy m w) : Tells X cl C e d := ⟨h, t_val h he hd⟩
theorem es_ok {f : Expr → Option E} (ih : ∀ e d, f e = some d → Tells X cl C e d) : ∀ {es : List Expr} {ds : Es}, cEs f es = some ds → PA X es (SA X cl (evEs C ds))
  | [], _, h => by cases h; exact a_nil
  | e :: es, ds, h => by
    obtain ⟨hs, d, ds', h1, h2, rfl⟩ := cEs_hd h
    exact a_cons (ih e d h1).1 (es_ok ih h2) (star_ok hs)
theorem o_ok {f : Expr → Option E} (ih : ∀ e d, f e = some d → Tells X cl C e d) {e : Option Expr} {d : Oe} (h : cO f e = some d) : PO X e (SOo X cl (evO C d)) := by
  cases e with
  | none => cases h; exact o_none
  | some e =>
    simp only [cO, Option.map_eq_some_iff] at h
    obtain ⟨d', h1, rfl⟩ := h
    exact o_some (ih e d' h1).1
theorem bs_ok {f : Expr → Option E} (ih : ∀ e d, f e = some d → Tells X cl C e d) {op : BoolOp} {pos : Pos} : ∀ {es : List Expr} {d : E}, cBs f op es = some d → PE X (.BoolOp op es pos) (SE X cl (evE C d)) ∧ PW X (.BoolOp op es pos) (ST X cl (evT C d))
  | [], _, h => by cases h
  | [e], d, h => by
    have q := ih e d h
    cases op with
    | And => exact ⟨pe_one q.1, pw_and1 q.2⟩
    | Or => exact ⟨pe_one q.1, pw_or1 q.2⟩
  | e :: e' :: r, d, h => by
    unfold cBs at h
    split at h
    · cases h
    · rename_i d1 h1
      split at h
      · cases h
      · rename_i d2 h2
        obtain ⟨q1, q2⟩ := bs_ok (pos := pos) ih h2
        obtain ⟨p1, p2⟩ := ih e d1 h1
        cases op with
        | And => cases h; exact ⟨s_and p1 q1, w_and p2 q2⟩
        | Or => cases h; exact ⟨s_or p1 q1, w_or p2 q2⟩
theorem t_chain {a b c' : Expr} {da db dc : E} {o1 o2 : CmpOp} {pos : Pos} (hu : X.A.units + 64 < cLine) (ha : PE X a (SE X cl (evE C da))) (hb : PE X b (SE X cl (evE C db))) (hc : PE X c' (SE X cl (evE C dc))) (hm : lastMarks [o1, o2] [b, c'] = false) :
    PT X (.Compare a [o1, o2] [b, c'] pos) (ST X cl (evT C (.chain o1 o2 da db dc))) := by
  refine PT.imp (pt_chain (so_cmp (cl := cl) hu o1) (so_cmp (cl := cl) hu o2) ha hb hc hm) ?_
  rintro σ H Q ⟨β, ρ, m, w, m', r, l, e, k⟩
  simp only [evT, evE] at e
  obtain ⟨x, m1, e1, e⟩ := R.bind_ok e
  obtain ⟨y, m2, e2, e⟩ := R.bind_ok e
  obtain ⟨z, m3, e3, e⟩ := R.bind_ok e
  refine ⟨β, ρ, m, x, m1, r, l, e1, fun β1 H1 v1 x1 r1 q1 => ?_⟩
  refine ⟨β1, ρ, m1, y, m2, r1, l.mono r x1, e2, fun β2 H2 v2 x2 r2 q2 => ?_⟩
  have l2 := (l.mono r x1).mono r1 x2
  refine ⟨β2, m2, x, y, .bl z, m3, r2, q1.mono r1 x2, q2, by dsimp only; rw [e3]; rfl, fun β3 H3 v3 x3 r3 q3 => ?_⟩
  cases q3
  refine ⟨z, rfl, ?_⟩
  have x03 := (x1.trans r1 x2).trans r2 x3
  split at e
  · rename_i hc
    rw [if_pos hc]
    obtain ⟨u, m4, e4, e⟩ := R.bind_ok e
    refine ⟨β3, ρ, m3, u, m4, r3, l2.mono r2 x3, e4, fun β4 H4 v4 x4 r4 q4 => ?_⟩
    refine ⟨β4, m4, y, u, .bl w, m', r4, (q2.mono r2 x3).mono r3 x4, q4, by dsimp only; rw [e]; rfl, fun β5 H5 v5 x5 r5 q5 => ?_⟩
    cases q5
    exact ⟨_, rfl, k _ _ ((x03.trans r3 x4).trans r4 x5) r5⟩
  · rename_i hc
    rw [if_neg hc]
    cases e
    exact ⟨_, rfl, k _ _ x03 r3⟩
theorem t_ife {t a b : Expr} {dt da db : E} {pos : Pos} (ht : PT X t (ST X cl (evT C dt))) (ha : PT X a (ST X cl (evT C da))) (hb : PT X b (ST X cl (evT C db))) : PT X (.IfExp t a b pos) (ST X cl (evT C (.ife dt da db))) := by
  intro pins s σ H Q I h
  obtain ⟨β, ρ, m, w, m', r, l, e, k⟩ := h
  simp only [evT, evE] at e
  obtain ⟨x, m1, e1, e⟩ := R.bind_ok e
  show wpAny _ _ (isTrue t X.env (eval t X.env) >>= fun z => if z = true then isTrue a X.env (eval a X.env) else isTrue b X.env (eval b X.env)) _ _ s
  refine wpAny_bind (thn (ht pins s σ H (fun c H1 => c = x ∧ ∃ β1, Ext β H β1 H1 ∧ Rel X.K cl β1 m1 H1) I ⟨β, ρ, m, x, m1, r, l, e1, fun β1 H1 x1 r1 => ⟨rfl, β1, x1, r1⟩⟩) fun c s1 ⟨H1, I1, hc, β1, x1, r1⟩ => ?_)
  subst hc
  cases c with
  | true => exact ha pins s1 σ H1 Q I1 ⟨β1, ρ, m1, w, m', r1, l.mono r x1, e, fun β2 H2 x2 r2 => k _ _ (x1.trans r1 x2) r2⟩
  | false => exact hb pins s1 σ H1 Q I1 ⟨β1, ρ, m1, w, m', r1, l.mono r x1, e, fun β2 H2 x2 r2 => k _ _ (x1.trans r1 x2) r2⟩
end
end D
end
section
set_option Elab.async false
set_option linter.all false
set_option maxRecDepth 100000
set_option autoImplicit false
namespace D
open PySem PySem.Spec PyProof.Rows L2
section
variable {X : L2.Cx} {cl : Nat → Addr} {C : D.Cx} {c : Ci}
theorem tslot_ok (o : Ok X cl C c) {x : Str} {i : Nat} (h : tslot c x = some i) : X.N[i]? = some x ∧ L2.Loc X.env.scope x ∧ (X.fn x = true ∨ X.env.scope.names.lookup x = some .local) := by
  unfold tslot at h
  split at h
  · rename_i hk
    exact ⟨o.slot h, o.loc hk (.inl rfl)⟩
  · rename_i hk
    exact ⟨o.slot h, o.loc hk (.inr rfl)⟩
  · cases h
theorem ndX (o : Ok X cl C c) : X.N.Nodup := by rw [o.N]; exact o.nd
theorem ts_ok {f : Expr → Option T} (ih : ∀ e t, f e = some t → PG X e (SG X cl (evA C (.pt t)))) : ∀ {es : List Expr} {ts : Ts}, cTs f es = some ts →
    PGs X es (SGs X cl (evAs C (T.ofTs ts))) ∧ (assignEach es X.env).length = (T.ofTs ts).len ∧ (assignEach es X.env).findIdx? (·.1) = none
  | [], _, h => by cases h; exact ⟨gs_nil, rfl, rfl⟩
  | e :: es, ts, h => by
    unfold cTs at h
    split at h
    · rename_i hs
      split at h
      · cases h
      · rename_i d h1
        split at h
        · cases h
        · rename_i ds h2
          cases h
          obtain ⟨q1, q2, q3⟩ := ts_ok ih h2
          have e1 := asg_each (env := X.env) (es := es) hs
          refine ⟨gs_cons (ih e d h1) q1 (by rw [e1]; rfl), ?_, ?_⟩
          · rw [e1, List.length_cons, q2]; rfl
          · rw [e1, List.findIdx?_cons]
            simp [q3]
    · cases h
theorem cT_ok (o : Ok X cl C c) : ∀ (n : Nat) (e : Expr) (t : T), cT n c e = some t → PG X e (SG X cl (evA C (.pt t)))
  | 0, _, _, h => by cases h
  | n + 1, e, t, h => by
    unfold cT at h
    split at h
    · simp only [Option.map_eq_some_iff] at h
      obtain ⟨i, hi, rfl⟩ := h
      obtain ⟨h1, h2, h3⟩ := tslot_ok o hi
      exact g_var (ndX o) h1 h2 h3
    · simp only [Option.map_eq_some_iff] at h
      obtain ⟨ts, hi, rfl⟩ := h
      obtain ⟨q1, q2, q3⟩ := ts_ok (fun e t h => cT_ok o n e t h) hi
      exact g_ptup (g_tup o.calm q1 q2 q3)
    · cases h
theorem isLrng_ok {x : Str} {args : List Expr} {a : Expr} (h : isLrng x args = some a) : ∃ py p2, x = "list" ∧ args = [.Call (.Name "range" py) [a] [] p2] := by
  unfold isLrng at h
  split at h
  · rename_i hx
    split at h
    · split at h
      · rename_i hy
        cases h
        subst hx hy
        exact ⟨_, _, rfl, rfl⟩
      · cases h
    · cases h
  · cases h
theorem evI_dflt {d : E} (h : isIt d = false) : ∀ ρ m, evI C d ρ m = (evE C d ρ m).bind fun x m => match srcOf m x with | some s => .ok s m | none => .no := by
  intro ρ m
  cases d <;> first | (simp [isIt] at h; done) | (simp only [evI, evE]; done) | rfl
theorem dflt_ok {f : Expr → Option E} (ih : ∀ e d, f e = some d → Tells X cl C e d) {tg e : Expr} {d : E} (h : (match f e with | some d => if isIt d = true then none else some d | none => none) = some d) : PI X tg e (SI X cl (evI C d)) := by
  split at h
  · rename_i d' h1
    split at h
    · cases h
    · rename_i hi
      cases h
      exact i_val (ih _ _ h1).1 (evI_dflt (by simpa using hi))
  · cases h
theorem cI_ok (o : Ok X cl C c) {f : Expr → Option E} (ih : ∀ e d, f e = some d → Tells X cl C e d) {tg e : Expr} {d : E} (h : cI f c tg e = some d) : PI X tg e (SI X cl (evI C d)) := by
  unfold cI at h
  split at h
  · rename_i x p args kws pos
    split at h
    · rename_i hk
      simp only [Bool.and_eq_true, beq_iff_eq, List.isEmpty_iff] at hk
      obtain ⟨⟨⟨hk1, hk2⟩, hk3⟩, hk4⟩ := hk
      subst hk1
      split at h
      · rename_i hx
        subst hx
        have hm := o.blt "range" (by decide +kernel)
        split at h
        · split at h
          · rename_i hs
            simp only [Option.map_eq_some_iff] at h
            obtain ⟨d', h1, rfl⟩ := h
            exact i_rng (o.glb hk2) hm (ih _ _ h1).1 (star_ok hs)
          · cases h
        · split at h
          · rename_i hs
            simp only [Bool.and_eq_true] at hs
            split at h
            · rename_i d1 d2 h1 h2
              cases h
              exact i_rng2 (o.glb hk2) hm (ih _ _ h1).1 (ih _ _ h2).1 (by rw [star_ok hs.1, star_ok hs.2]; rfl) (star_ok hs.2)
            · cases h
          · cases h
        · cases h
      · split at h
        · rename_i hx
          subst hx
          have hm := o.blt "enumerate" (by decide +kernel)
          split at h
          · split at h
            · rename_i hs
              simp only [Option.map_eq_some_iff] at h
              obtain ⟨d', h1, rfl⟩ := h
              exact i_enm (o.glb hk2) hm (ih _ _ h1).1 (star_ok hs)
            · cases h
          · cases h
        · split at h
          · rename_i hx
            subst hx
            have hm := o.blt "zip" (by decide +kernel)
            split at h
            · split at h
              · rename_i hr
                simp only [Option.map_eq_some_iff] at h
                obtain ⟨ds, h1, rfl⟩ := h
                obtain ⟨hst, d1, ds1, z1, z2, rfl⟩ := cEs_hd h1
                exact i_zip (o.glb hk2) hm (es_ok ih h1) (fun ρ m ws m' e => by
                  have := evEs_len e
                  have := cEs_len h1
                  simp only [List.length_cons] at this
                  omega) (star_ok hst) fun _ => cEs_star z2
              · cases h
            · cases h
          · exact dflt_ok ih h
    · exact dflt_ok ih h
  · exact dflt_ok ih h
theorem cIfs_ok {f : Expr → Option E} (ih : ∀ e d, f e = some d → Tells X cl C e d) {es : List Expr} {ds : Es} (h : cIfs f es = some ds) : PIfs X es (ST X cl (evIfs C ds)) := by
  unfold cIfs at h
  split at h
  · cases h; exact ifs_nil
  · simp only [Option.map_eq_some_iff] at h
    obtain ⟨d, h1, rfl⟩ := h
    exact ifs_one (ih _ _ h1).2
  · cases h
theorem cGs_head {f : Expr → Option E} {n : Nat} {elt : Expr} {gs : List Comprehension} {g : G} (h : cGs f n c elt gs = some g) : ∀ g', gs[0]? = some g' → g'.is_async = 0 ∧ ∀ (env : Env) x, foldedSetIterable g'.iter env x = pure x := by
  intro g' hg
  cases gs with
  | nil => simp at hg
  | cons g0 gs =>
    simp at hg
    subst hg
    obtain ⟨tg, it, ifs, as⟩ := g0
    unfold cGs at h
    split at h
    · rename_i hs
      exact ⟨hs.1, fun env x => set_ok hs.2 x⟩
    · cases h
theorem cGs_ok (o : Ok X cl C c) (hx : X.xe = fun _ _ => False) {f : Expr → Option E} (ih : ∀ e d, f e = some d → Tells X cl C e d) {n : Nat} {elt : Expr} {scope : Scope} {pos : Pos} {gens : List Comprehension} {Δ : Addr} : ∀ {gs : List Comprehension} {g : G} {d0 : Nat}, cGs f n c elt gs = some g → (∀ i, gens[d0 + 1 + i]? = gs[i]?) →
    PB X (.ListComp elt gens scope pos) elt gens d0 Δ (SB X cl Δ (evG C g))
  | [], g, d0, h, hg => by
    simp only [cGs, Option.map_eq_some_iff] at h
    obtain ⟨d, h1, rfl⟩ := h
    exact b_last hx (by simpa using hg 0) (ih _ _ h1).1
  | ⟨tg, it, ifs, as⟩ :: gs, g, d0, h, hg => by
    unfold cGs at h
    split at h
    · rename_i hs
      split at h
      · rename_i t d ds g' h1 h2 h3 h4
        cases h
        obtain ⟨rfl, hs2⟩ := hs
        have hh := cGs_head h4
        refine b_gen hx o.calm (by simpa using hg 0) (fun g2 hg2 => ?_) (cI_ok o ih h2) (cT_ok o n _ _ h1) (cIfs_ok ih h3) (cGs_ok o hx ih (d0 := d0 + 1) h4 fun i => ?_)
        · have := hg 1
          rw [hg2] at this
          obtain ⟨a1, a2⟩ := hh g2 (by simpa using this.symm)
          exact ⟨a1, a2 _⟩
        · have := hg (i + 1)
          rw [show d0 + 1 + 1 + i = d0 + 1 + (i + 1) by omega, this]
          simp
      · cases h
    · cases h
theorem lookup_relabel' {env : Env} : ∀ {names : List (Str × NameKind)} {x : Str} {k : NameKind}, names.lookup x = some k →
    (names.map fun (n, k) => if (k == NameKind.free && env.scope.kind == .function && env.kindOf n == some .cell) then (n, NameKind.cell) else (n, k)).lookup x = some k ∨
    (k = .free ∧ (names.map fun (n, k) => if (k == NameKind.free && env.scope.kind == .function && env.kindOf n == some .cell) then (n, NameKind.cell) else (n, k)).lookup x = some .cell)
  | [], _, _, h => by simp at h
  | (n, k0) :: r, x, k, h => by
    have ih := @lookup_relabel' env r x k
    show List.lookup x ((if (k0 == NameKind.free && env.scope.kind == .function && env.kindOf n == some .cell) = true then (n, NameKind.cell) else (n, k0)) :: (r.map fun (n, k) => if (k == NameKind.free && env.scope.kind == .function && env.kindOf n == some .cell) then (n, NameKind.cell) else (n, k))) = some k ∨ (k = .free ∧ List.lookup x ((if (k0 == NameKind.free && env.scope.kind == .function && env.kindOf n == some .cell) = true then (n, NameKind.cell) else (n, k0)) :: (r.map fun (n, k) => if (k == NameKind.free && env.scope.kind == .function && env.kindOf n == some .cell) then (n, NameKind.cell) else (n, k))) = some .cell)
    cases hx : x == n with
    | true =>
      simp only [List.lookup_cons, hx] at h
      cases h
      by_cases hc : (k0 == NameKind.free && env.scope.kind == .function && env.kindOf n == some .cell) = true
      · rw [if_pos hc]
        have hk : k0 = .free := by
          simp only [Bool.and_eq_true] at hc
          simpa using hc.1.1
        exact .inr ⟨hk, by simp only [List.lookup_cons, hx]⟩
      · rw [if_neg hc]
        exact .inl (by simp only [List.lookup_cons, hx])
    | false =>
      simp only [List.lookup_cons, hx] at h
      have := ih h
      split <;> (simp only [List.lookup_cons, hx]; exact this)
theorem Ok.comp (o : Ok X cl C c) {scope : Scope} (hc : compOk c.N scope c.names = true) : CompOk X.N (ownJs c.N scope.names) scope X.env.scope ∧ ∀ cl' s₀ H₀ fp pn, Ok (X.comp scope cl' s₀ H₀ fp pn) cl C { c with names := scope.names } := by
  unfold compOk at hc
  simp only [Bool.and_eq_true, decide_eq_true_eq, List.all_eq_true, Bool.or_eq_true] at hc
  obtain ⟨h1, h2⟩ := hc
  have nocell : ∀ y ∈ scope.names, y.2 ≠ .cell := fun y hy => (h2 y hy).1.1
  refine ⟨⟨h1, nocell, fun y hy hl => ?_, fun p hp hl => ?_, fun y hy hf => ?_⟩, fun cl' s₀ H₀ fp pn => ⟨o.N, o.nd, fun {x k} hk hv => ?_, fun {x k} hk hv => ?_, fun {x} hk => ?_, fun {x} hk => ?_, o.calm, o.units, o.hand, o.blt, o.fn, o.gl⟩⟩
  · rcases (h2 y hy).1.2 with z | z
    · exact absurd hl z
    · exact z
  · unfold ownJs
    rw [o.N] at hp
    refine List.mem_map.mpr ⟨p, List.mem_filter.mpr ⟨hp, by simp [hl]⟩, rfl⟩
  · rcases (h2 y hy).2 with (z | z) | z
    · exact absurd hf z
    · exact o.cel (.inl z)
    · exact o.cel (.inr z)
  · rcases lookup_relabel' (env := X.env) hk with z | ⟨z1, z⟩
    · rcases hv with rfl | rfl | rfl
      · exact .inl z
      · exact .inr (.inl z)
      · exact .inr (.inr z)
    · exact .inr (.inl z)
  · rcases hv with rfl | rfl
    · rcases lookup_relabel' (env := X.env) hk with z | ⟨z1, z⟩
      · exact ⟨.inl z, .inr z⟩
      · cases z1
    · exact absurd rfl (nocell _ (PySem.mem_of_lookup hk))
  · rcases hk with hk | hk
    · exact absurd rfl (nocell _ (PySem.mem_of_lookup hk))
    · rcases lookup_relabel' (env := X.env) hk with z | ⟨z1, z⟩
      · exact .inr z
      · exact .inl z
  · rcases lookup_relabel' (env := X.env) hk with z | ⟨z1, z⟩
    · exact z
    · cases z1
end
theorem cE_ok {cl : Nat → Addr} {C : D.Cx} : ∀ (n : Nat) (X : L2.Cx) (c : Ci) (e : Expr) (d : E), Ok X cl C c → cE n c e = some d → Tells X cl C e d
  | 0, _, _, _, _, _, h => by cases h
  | n + 1, X, c, e, d, o, h => by
    have ih : ∀ e d, cE n c e = some d → Tells X cl C e d := fun e d h => cE_ok n X c e d o h
    unfold cE at h
    split at h
    ·
      obtain ⟨q1, q2⟩ := name_ok o h
      exact tells_val q1 (fun _ => rfl) q2
    ·
      split at h
      · cases h; exact tells_val s_int (fun _ => rfl) fun _ _ => by simp only [evT, evE]
      · cases h; exact tells_val s_bl (fun _ => rfl) fun _ _ => by simp only [evT, evE]
      · cases h; exact tells_val s_non (fun _ => rfl) fun _ _ => by simp only [evT, evE]
      · cases h; exact tells_val s_str (fun _ => rfl) fun _ _ => by simp only [evT, evE]
      · cases h
    ·
      split at h
      · rename_i d1 d2 h1 h2
        cases h
        exact tells_val (s_bin (ih _ _ h1).1 (ih _ _ h2).1) (fun _ => rfl) fun _ _ => by simp only [evT, evE]
      · cases h
    ·
      split at h
      · simp only [Option.map_eq_some_iff] at h
        obtain ⟨d', h1, rfl⟩ := h
        exact tells_val (s_neg (ih _ _ h1).1) (fun _ => rfl) fun _ _ => by simp only [evT, evE]
      · simp only [Option.map_eq_some_iff] at h
        obtain ⟨d', h1, rfl⟩ := h
        exact ⟨s_not (ih _ _ h1).1, t_not (ih _ _ h1).2⟩
      · cases h
    ·
      obtain ⟨q1, q2⟩ := bs_ok ih h
      exact ⟨q1, q2.pt⟩
    ·
      split at h
      · split at h
        · cases h
        · rename_i hm
          split at h
          · rename_i d1 d2 h1 h2
            cases h
            exact ⟨s_cmp o.units (ih _ _ h1).1 (ih _ _ h2).1 (by simpa using hm), t_cmp o.units (ih _ _ h1).1 (ih _ _ h2).1 (by simpa using hm)⟩
          · cases h
      · split at h
        · cases h
        · rename_i hm
          split at h
          · rename_i d1 d2 d3 h1 h2 h3
            cases h
            have hm := (Bool.not_eq_true _).mp hm
            exact ⟨s_chain o.units (ih _ _ h1).1 (ih _ _ h2).1 (ih _ _ h3).1 (pe_chain (so_cmp o.units _) (so_cmp o.units _) (ih _ _ h1).1 (ih _ _ h2).1 (ih _ _ h3).1 hm), t_chain o.units (ih _ _ h1).1 (ih _ _ h2).1 (ih _ _ h3).1 hm⟩
          · cases h
      · cases h
    ·
      split at h
      · rename_i d1 d2 d3 h1 h2 h3
        cases h
        exact ⟨s_ife (ih _ _ h1).2 (ih _ _ h2).1 (ih _ _ h3).1, t_ife (ih _ _ h1).2 (ih _ _ h2).2 (ih _ _ h3).2⟩
      · cases h
    ·
      simp only [Option.map_eq_some_iff] at h
      obtain ⟨ds, h1, rfl⟩ := h
      exact tells_val (s_tup (es_ok ih h1)) (fun _ => rfl) fun _ _ => by simp only [evT, evE]
    · simp only [Option.map_eq_some_iff] at h
      obtain ⟨ds, h1, rfl⟩ := h
      exact tells_val (s_lst (es_ok ih h1)) (fun _ => rfl) fun _ _ => by simp only [evT, evE]
    ·
      split at h
      · split at h
        · split at h
          · rename_i d1 d2 d3 h1 h2 h3
            cases h
            exact tells_val (s_slc (ih _ _ h1).1 (o_ok ih h2) (o_ok ih h3)) (fun _ => rfl) fun _ _ => by simp only [evT, evE]
          · cases h
        · cases h
      · split at h
        · cases h
        · rename_i hs
          split at h
          · rename_i d1 d2 h1 h2
            cases h
            exact tells_val (s_idx (ih _ _ h1).1 (ih _ _ h2).1 (plainIx ((Bool.not_eq_true _).mp hs))) (fun _ => rfl) fun _ _ => by simp only [evT, evE]
          · cases h
    ·
      rename_i f args kws pos
      split at h
      · rename_i hk
        have hk : kws = [] := by simpa using hk
        subst hk
        split at h
        · rename_i x p
          split at h
          · cases h
          · rename_i hsp
            obtain ⟨hs1, hs2, hs3⟩ := special_ok (by simpa using hsp)
            split at h
            · rename_i hgl
              have hg := o.glb hgl
              split at h
              · rename_i i np hf
                split at h
                · cases h
                · rename_i a r
                  split at h
                  · rename_i hlen
                    simp only [Option.map_eq_some_iff] at h
                    obtain ⟨ds, h1, rfl⟩ := h
                    obtain ⟨k, fa, fd, ps, e1, e2, e3, e4, e5, e6⟩ := o.fn hf
                    obtain ⟨hst, d1, ds1, z1, z2, rfl⟩ := cEs_hd h1
                    refine tells_val (s_call e6 e2 hg e3 e4 e5 (es_ok ih h1) (fun ρ m ws m' hw => ?_) hs1 (star_ok hst) (cEs_star z2)) (fun _ => rfl) fun _ _ => by simp only [evT, evE]
                    rw [evEs_len hw, cEs_len h1, e1]
                    exact hlen
                  · cases h
              · split at h
                · rename_i a hl
                  split at h
                  · rename_i hcond
                    simp only [Bool.and_eq_true, beq_iff_eq] at hcond
                    simp only [Option.map_eq_some_iff] at h
                    obtain ⟨d1, h1, rfl⟩ := h
                    obtain ⟨py, p2, rfl, rfl⟩ := isLrng_ok hl
                    exact tells_val (s_lrng o.hand hg (o.blt _ (by decide +kernel)) (o.glb hcond.1.2) (o.blt _ (by decide +kernel)) (ih _ _ h1).1 (star_ok hcond.1.1)) (fun _ => rfl) fun _ _ => by simp only [evT, evE]
                  · cases h
                · split at h
                  · rename_i b hb
                    split at h
                    · cases h
                    · rename_i a r
                      simp only [Option.map_eq_some_iff] at h
                      obtain ⟨ds, h1, rfl⟩ := h
                      obtain ⟨hst, d1, ds1, z1, z2, rfl⟩ := cEs_hd h1
                      obtain ⟨hm, ⟨id, y1, y2⟩ | ⟨id, y1, y2⟩⟩ := bltTab_ok hb
                      · exact tells_val (s_bltF o.calm o.hand y1 hg (o.blt _ hm) y2 (es_ok ih h1) hs3 hs1 (star_ok hst) (cEs_star z2)) (fun _ => rfl) fun _ _ => by simp only [evT, evE]
                      · exact tells_val (s_bltT o.calm o.hand y1 hg (o.blt _ hm) y2 (es_ok ih h1) hs3 hs1 (star_ok hst) (cEs_star z2)) (fun _ => rfl) fun _ _ => by simp only [evT, evE]
                  · split at h
                    · rename_i hx
                      subst hx
                      split at h
                      · rename_i a t p2
                        split at h
                        · cases h
                        · rename_i hsp2
                          obtain ⟨hq1, hq2, hq3⟩ := special_ok (by simpa using hsp2)
                          split at h
                          · rename_i hcond
                            simp only [Bool.and_eq_true, beq_iff_eq] at hcond
                            split at h
                            · rename_i tn d1 y1 y2
                              cases h
                              obtain ⟨z1, z2, z3⟩ := tyTab_ok y1
                              exact tells_val (s_isI z2 hg (o.blt _ (by decide +kernel)) (o.glb hcond.2) (o.blt _ z1) z3 (ih _ _ y2).1 hq3 hq1 (star_ok hcond.1)) (fun _ => rfl) fun _ _ => by simp only [evT, evE]
                            · cases h
                          · cases h
                      · cases h
                    · cases h
            · cases h
        · rename_i ob mm apos
          split at h
          · cases h
          · rename_i hc0
            split at h
            · rename_i hline
              split at h
              · rename_i nm id d1 y1 y2
                split at h
                · rename_i hlen
                  simp only [Option.map_eq_some_iff] at h
                  obtain ⟨ds, h1, rfl⟩ := h
                  obtain ⟨w1, w2, w3⟩ := mtTab_ok (X := X) (cl := cl) y1
                  have hbase := base_ok (env := X.env) (m := mm) (by simpa using hc0 : isCall0 ob = false)
                  cases args with
                  | nil =>
                    cases h1
                    exact tells_val (s_meth0 PySem.F.plainAttrs_list w1 w2 w3 (ih _ _ y2).1 hbase hline) (fun _ => rfl) fun _ _ => by simp only [evT, evE]
                  | cons a r =>
                    obtain ⟨hst, d2, ds1, z1, z2, rfl⟩ := cEs_hd h1
                    refine tells_val (s_meth PySem.F.plainAttrs_list w1 w2 w3 (ih _ _ y2).1 (es_ok ih h1) hbase ?_ hline (star_ok hst) (cEs_star z2)) (fun _ => rfl) fun _ _ => by simp only [evT, evE]
                    rw [cEs_all h1]
                    have : (a :: r).length + 0 + 0 < 30 := Nat.lt_of_lt_of_le hlen (by decide)
                    show (true && true && decide _) = true
                    exact decide_eq_true this
                · cases h
              · cases h
            · cases h
        · cases h
      · cases h
    ·
      rename_i elt gens scope pos
      split at h
      · cases h
      · rename_i tg it ifs as gs
        split at h
        · rename_i hcond
          obtain ⟨rfl, hset, hco⟩ := hcond
          dsimp only at h
          split at h
          · rename_i t d1 ds g h1 h2 h3 h4
            cases h
            obtain ⟨ok, oc⟩ := o.comp hco
            have ihc : ∀ cl' s₀ H₀ fp pn e d, cE n { c with names := scope.names } e = some d → Tells (X.comp scope cl' s₀ H₀ fp pn) cl C e d := fun cl' s₀ H₀ fp pn e d h => cE_ok n _ _ e d (oc cl' s₀ H₀ fp pn) h
            refine tells_val (s_comp o.calm ok rfl (by simpa using cGs_head h4) (cI_ok o ih h2) (fun _ _ _ _ _ => cT_ok (oc _ _ _ _ _) n _ _ h1) (fun _ _ _ _ _ => cIfs_ok (ihc _ _ _ _ _) h3)
              (fun _ _ _ _ _ Δ => cGs_ok (oc _ _ _ _ _) rfl (ihc _ _ _ _ _) h4 fun i => by simp [Nat.add_comm]) (fun x => set_ok hset x) (eval_ListComp _ _ _ _)) (fun _ => rfl) fun _ _ => by simp only [evT, evE]
          · cases h
        · cases h
    · cases h
end D
end
section
set_option Elab.async false
set_option linter.all false
set_option maxRecDepth 100000
set_option autoImplicit false
namespace D
open PySem PySem.Spec PyProof.Rows L2
section
variable {env : Env}
theorem asg_sub {o i : Expr} {pos : Pos} (h : isSlice i = false) (v : Value) : assign (.Subscript o i pos) env v = (do
      let ov ← holding [v] (eval o env)
      let iv ← holding [v, ov] (eval i env)
      standAt pos
      holding [v, ov, iv] (setItem ov iv v)
      release [v, ov, iv] []) := by
  cases i <;> first | rfl | cases h
theorem sole_no {v tg : Expr} {l : Nat} (h : isNameE tg = false) : swapsWithSole [tg] v l env = pure false := by
  show swapsWith v (some tg) l env = pure false
  cases v <;> first | rfl | (cases tg <;> first | rfl | cases h)
theorem stores_no {v tg : Expr} (h : (isTupE tg && isTupE v) = false) : swappedStores [tg] v env = pure none := by
  cases tg <;> first | rfl | (cases v <;> first | rfl | cases h)
theorem swapped_two {x y : Str} {px py pt pt2 : Pos} {kt k2 : Nat} {a b : Expr} (bk : env.blockKind = .function) (k1 : env.kindOf x = some .local) (k2' : env.kindOf y = some .local) (hl : px.line = py.line) (hxy : x ≠ y) (ha : noStar a = true) (hb : noStar b = true)
    (f1 : [a, b].all (foldedForSure 8) = false) (f2 : [a, b].all (constantsAlone 8) = false) : swappedStores [.Tuple [.Name x px, .Name y py] kt pt] (.Tuple [a, b] k2 pt2) env = pure (some [x, y]) := by
  have hsa : ∀ (f : Expr → Bool), (∀ e, noStar e = true → f e = false) → [a, b].any f = false := fun f h => by simp [h a ha, h b hb]
  have hfm : ∀ (f : Expr → Option Str), f (.Name x px) = some x → f (.Name y py) = some y → [Expr.Name x px, Expr.Name y py].filterMap f = [x, y] := fun f h1 h2 => by simp [h1, h2]
  have e2 : [x, y].eraseDups = [x, y] := by
    rw [List.eraseDups_cons]
    have : (y == x) = false := by simpa using hxy.symm
    simp [this, List.eraseDups_cons]
  unfold swappedStores
  simp only [bk, f1, f2]
  refine (if_neg (by simp)).trans ?_
  rw [hsa _ (fun e he => by cases e <;> first | rfl | cases he)]
  refine (if_neg (by simp)).trans ?_
  rw [hfm _ (by simp [k1, Expr.pos]) (by simp [k2', Expr.pos, hl]), e2]
  rfl
end
theorem comp_kind {c : Ci} {n : Nat} {v : Expr} {d : E} (hc : isComp v = true) (h : cE n c v = some d) : ∃ elt gens scope pos, v = .ListComp elt gens scope pos := by
  cases n with
  | zero => cases h
  | succ n =>
    cases v with
    | ListComp elt gens scope pos => exact ⟨_, _, _, _, rfl⟩
    | SetComp elt gens scope pos => unfold cE at h; cases h
    | DictComp k v gens scope pos => unfold cE at h; cases h
    | _ => cases hc
section
variable {X : L2.Cx} {cl : Nat → Addr} {C : D.Cx} {c : Ci}
theorem as_ok {f : Expr → Option A} (ih : ∀ e t, f e = some t → PG X e (SG X cl (evA C t))) : ∀ {es : List Expr} {ts : As}, cAs f es = some ts →
    PGs X es (SGs X cl (evAs C ts)) ∧ (assignEach es X.env).length = ts.len ∧ (assignEach es X.env).findIdx? (·.1) = none
  | [], _, h => by cases h; exact ⟨gs_nil, rfl, rfl⟩
  | e :: es, ts, h => by
    unfold cAs at h
    split at h
    · rename_i hs
      split at h
      · cases h
      · rename_i d h1
        split at h
        · cases h
        · rename_i ds h2
          cases h
          obtain ⟨q1, q2, q3⟩ := as_ok ih h2
          have e1 := asg_each (env := X.env) (es := es) hs
          refine ⟨gs_cons (ih e d h1) q1 (by rw [e1]; rfl), ?_, ?_⟩
          · rw [e1, List.length_cons, q2]; rfl
          · rw [e1, List.findIdx?_cons]
            simp [q3]
    · cases h
theorem cA_ok (o : Ok X cl C c) : ∀ (n : Nat) (e : Expr) (t : A), cA n c e = some t → PG X e (SG X cl (evA C t))
  | 0, _, _, h => by cases h
  | n + 1, e, t, h => by
    unfold cA at h
    split at h
    · simp only [Option.map_eq_some_iff] at h
      obtain ⟨i, hi, rfl⟩ := h
      obtain ⟨h1, h2, h3⟩ := tslot_ok o hi
      exact g_var (ndX o) h1 h2 h3
    · simp only [Option.map_eq_some_iff] at h
      obtain ⟨ts, hi, rfl⟩ := h
      obtain ⟨q1, q2, q3⟩ := as_ok (fun e t h => cA_ok o n e t h) hi
      exact g_tup o.calm q1 q2 q3
    · split at h
      · cases h
      · rename_i hs
        split at h
        · rename_i d1 d2 h1 h2
          cases h
          exact g_sub (cE_ok n X c _ _ o h1).1 (cE_ok n X c _ _ o h2).1 (asg_sub ((Bool.not_eq_true _).mp hs))
        · cases h
    · cases h
theorem ss_ok {f : Stmt → Option S} (ih : ∀ s d, f s = some d → PS X s (SS X cl (evS C d))) : ∀ {es : List Stmt} {ds : Ss}, cSs f es = some ds → PSs X es (SS X cl (evSs C ds))
  | [], _, h => by cases h; exact ss_nil
  | e :: es, ds, h => by
    unfold cSs at h
    split at h
    · cases h
    · rename_i d h1
      split at h
      · cases h
      · rename_i ds h2
        cases h
        exact ss_cons (ih e d h1) (ss_ok ih h2)
theorem set_comp (o : Ok X cl C c) {n : Nat} {x : Str} {p pos spos : Pos} {elt : Expr} {gens : List Comprehension} {scope : Scope} {i : Nat} {d : E} (ht : tslot c x = some i) (h : cE n c (.ListComp elt gens scope pos) = some d) :
    PS X (.Assign [.Name x p] (.ListComp elt gens scope pos) spos) (SS X cl (evS C (.asg (.pt (.var i)) d))) := by
  obtain ⟨h1, h2, h3⟩ := tslot_ok o ht
  have e : swapsWith (.ListComp elt gens scope pos) (some (.Name x p)) spos.line X.env = pure (X.env.blockKind == .function && X.env.kindOf x == some .local && p.line == (Expr.ListComp elt gens scope pos).pos.line && !(scope.names.any fun (n, k) => n == x && (k == .local || k == .cell))) := rfl
  cases hb : (X.env.blockKind == .function && X.env.kindOf x == some .local && p.line == (Expr.ListComp elt gens scope pos).pos.line && !(scope.names.any fun (n, k) => n == x && (k == .local || k == .cell))) with
  | false =>
    rw [hb] at e
    exact st_set (ndX o) h1 h2 (cE_ok n X c _ _ o h).1 e h3
  | true =>
    rw [hb] at e
    cases n with
    | zero => cases h
    | succ n =>
      have ih : ∀ e d, cE n c e = some d → Tells X cl C e d := fun e d h => cE_ok n X c e d o h
      unfold cE at h
      dsimp only at h
      split at h
      · cases h
      · rename_i tg it ifs as gs
        split at h
        · rename_i hcond
          obtain ⟨rfl, hset, hco⟩ := hcond
          split at h
          · rename_i t d1 ds g y1 y2 y3 y4
            cases h
            obtain ⟨ok, oc⟩ := o.comp hco
            have ihc : ∀ cl' s₀ H₀ fp pn e d, cE n { c with names := scope.names } e = some d → Tells (X.comp scope cl' s₀ H₀ fp pn) cl C e d := fun cl' s₀ H₀ fp pn e d h => cE_ok n _ _ e d (oc cl' s₀ H₀ fp pn) h
            exact st_setC o.calm (ndX o) h1 h2 ok (cGs_head y4) (cI_ok o ih y2) (fun _ _ _ _ _ => cT_ok (oc _ _ _ _ _) n _ _ y1) (fun _ _ _ _ _ => cIfs_ok (ihc _ _ _ _ _) y3)
              (fun _ _ _ _ _ Δ => cGs_ok (oc _ _ _ _ _) rfl (ihc _ _ _ _ _) y4 fun i => by simp [Nat.add_comm]) (fun x => set_ok hset x) e h3
          · cases h
        · cases h
set_option maxHeartbeats 1000000 in
theorem cS_ok (o : Ok X cl C c) (hsc : X.env.scope.names = c.names) (hkd : X.env.scope.kind = .function) (hp : PassesOwn (model X.prog X.w) X.A X.env X.xe) : ∀ (n : Nat) (s : Stmt) (d : S), cS n c s = some d → PS X s (SS X cl (evS C d))
  | 0, _, _, h => by cases h
  | n + 1, s, d, h => by
    have ih : ∀ e d, cE n c e = some d → Tells X cl C e d := fun e d h => cE_ok n X c e d o h
    have ihs : ∀ s d, cS n c s = some d → PS X s (SS X cl (evS C d)) := fun s d h => cS_ok o hsc hkd hp n s d h
    unfold cS at h
    split at h
    ·
      rename_i x p v spos
      split at h
      · rename_i i d1 y1 y2
        cases h
        obtain ⟨h1, h2, h3⟩ := tslot_ok o y1
        by_cases hc : isComp v = true
        · obtain ⟨_, _, _, _, rfl⟩ := comp_kind hc y2
          exact set_comp o y1 y2
        · exact st_set (ndX o) h1 h2 (ih _ _ y2).1 (swap_no ((Bool.not_eq_true _).mp hc)) h3
      · cases h
    ·
      rename_i x px y py kt pt a b k2 pt2 spos
      split at h
      · rename_i hcond
        simp only [Bool.and_eq_true, beq_iff_eq, bne_iff_ne, Bool.not_eq_true'] at hcond
        obtain ⟨⟨⟨⟨⟨⟨⟨c1, c2⟩, c3⟩, c4⟩, c5⟩, c6⟩, c7⟩, c8⟩ := hcond
        split at h
        · rename_i i j d1 d2 y1 y2 y3 y4
          cases h
          obtain ⟨h1, h2, h3⟩ := tslot_ok o y1
          obtain ⟨g1, g2, g3⟩ := tslot_ok o y2
          have hij : i ≠ j := by
            rintro rfl
            rw [h1] at g1
            exact c4 (Option.some.inj g1)
          have kx : X.env.scope.names.lookup x = some .local := by rw [hsc]; exact c2
          have ky : X.env.scope.names.lookup y = some .local := by rw [hsc]; exact c3
          have bk : X.env.blockKind = .function := by
            unfold Env.blockKind
            rw [hkd]; split <;> rfl
          exact st_par o.calm (ndX o) h1 g1 hij kx ky (a_cons (ih _ _ y3).1 (a_cons (ih _ _ y4).1 a_nil (star_ok c6)) (star_ok c5)) (swapped_two bk kx ky c1 c4 c5 c6 c7 c8) rfl
        · cases h
      · cases h
    ·
      rename_i tg v spos _ _
      split at h
      · cases h
      · rename_i hcond
        simp only [Bool.or_eq_true, Bool.not_eq_true', not_or, Bool.not_eq_false] at hcond
        obtain ⟨⟨c1, c2⟩, c3⟩ := hcond
        split at h
        · rename_i t d1 y1 y2
          cases h
          exact st_asg (ih _ _ y2).1 (cA_ok o n _ _ y1) (sole_no ((Bool.not_eq_true _).mp c2)) (stores_no ((Bool.not_eq_true _).mp c1)) (by rw [asg_each c3]; rfl)
        · cases h
    · split at h
      · rename_i hop
        split at h
        · rename_i i d1 y1 y2
          cases h
          obtain ⟨h1, h2, h3⟩ := tslot_ok o y1
          exact st_aug hop (ndX o) h1 h2 (ih _ _ y2).1 h3
        · cases h
      · cases h
    · split at h
      · cases h
      · rename_i hc
        simp only [Option.map_eq_some_iff] at h
        obtain ⟨d1, h1, rfl⟩ := h
        exact st_expr (ih _ _ h1).1 (swap_no ((Bool.not_eq_true _).mp hc))
    · simp only [Option.map_eq_some_iff] at h
      obtain ⟨d1, h1, rfl⟩ := h
      exact st_ret (ih _ _ h1).1
    · cases h; exact st_retN
    · split at h
      · rename_i d1 x y y1 y2 y3
        cases h
        exact st_if (ih _ _ y1).2 (ss_ok ihs y2) (ss_ok ihs y3)
      · cases h
    · split at h
      · cases h
      · rename_i hs
        split at h
        · rename_i t d1 x y1 y2 y3
          cases h
          exact st_for hp o.calm (cI_ok o ih y2) (cT_ok o n _ _ y1) (ss_ok ihs y3) (fun x => set_ok ((Bool.not_eq_true _).mp hs) x)
        · cases h
    · split at h
      · rename_i d1 x y1 y2
        cases h
        exact st_while hp (ih _ _ y1).2 (ss_ok ihs y2)
      · cases h
    · cases h; exact st_pass
    · cases h; exact st_brk
    · cases h; exact st_cont
    · cases h; exact st_never
    · cases h
end
end D
end
section
set_option Elab.async false
set_option linter.all false
set_option maxRecDepth 100000
set_option autoImplicit false
namespace D
open PySem PySem.Spec PyProof.Rows L2
mutual
def pureW : W → Bool
  | .tup xs => pureWs xs
  | .fz xs => pureWs xs
  | .ref _ => false
  | .non => true
  | .bl _ => true
  | .int _ => true
  | .str _ => true
def pureWs : List W → Bool
  | [] => true
  | x :: r => pureW x && pureWs r
end
mutual
def shW (k : Nat) : W → W
  | .tup xs => .tup (shWs k xs)
  | .fz xs => .fz (shWs k xs)
  | .ref n => .ref (k + n)
  | .non => .non
  | .bl b => .bl b
  | .int i => .int i
  | .str x => .str x
def shWs (k : Nat) : List W → List W
  | [] => []
  | x :: r => shW k x :: shWs k r
end
def shFs (k : Nat) : List (Str × W) → List (Str × W)
  | [] => []
  | (f, x) :: r => (f, shW k x) :: shFs k r
def shO (k : Nat) : O → O
  | .lst xs => .lst (shWs k xs)
  | .ins c fs => .ins c (shFs k fs)
def callP (f : List W → Mem → R W) (ws : List W) (m : Mem) : R W :=
  if pureWs ws then match f ws [] with
    | .ok w m1 => if pureW w then .ok w m else .ok (shW m.length w) (m ++ m1.map (shO m.length))
    | .no => .no
  else f ws m
def runN (P : List Fn) (fuel : Nat) : Nat → Nat → List W → Mem → R W
  | 0, _, _, _ => .no
  | n + 1, f, ws, m => match P[f]? with
    | none => .no
    | some d => if ws.length = d.np then (evSs ⟨fun f => callP (runN P fuel n f), fuel⟩ d.body (startL d.nl ws) m).bind outF else .no
mutual
theorem RW.pure {K : PySem.W.Frag} {β β' : List Addr} {H : Hp} : ∀ {w : W} {v : V}, RW K β H w v → pureW w = true → RW K β' H w v
  | _, _, .non, _ => .non
  | _, _, .bl b, _ => .bl b
  | _, _, .int i, _ => .int i
  | _, _, .str s, _ => .str s
  | _, _, .tup q t, h => .tup q (RWs.pure t (by simpa only [pureW] using h))
  | _, _, .fz q t, h => .fz q (RWs.pure t (by simpa only [pureW] using h))
  | _, _, .ref q, h => by simp [pureW] at h
theorem RWs.pure {K : PySem.W.Frag} {β β' : List Addr} {H : Hp} : ∀ {w : List W} {v : List V}, RWs K β H w v → pureWs w = true → RWs K β' H w v
  | _, _, .nil, _ => .nil
  | _, _, .cons q t, h => by
    simp only [pureWs, Bool.and_eq_true] at h
    exact .cons (RW.pure q h.1) (RWs.pure t h.2)
end
mutual
theorem RW.shift {K : PySem.W.Frag} {β γ : List Addr} {H : Hp} : ∀ {w : W} {v : V}, RW K γ H w v → RW K (β ++ γ) H (shW β.length w) v
  | _, _, .non => .non
  | _, _, .bl b => .bl b
  | _, _, .int i => .int i
  | _, _, .str s => .str s
  | _, _, .tup q t => .tup q (RWs.shift t)
  | _, _, .fz q t => .fz q (RWs.shift t)
  | _, _, .ref q => .ref (by rw [List.getElem?_append_right (by omega), Nat.add_sub_cancel_left]; exact q)
theorem RWs.shift {K : PySem.W.Frag} {β γ : List Addr} {H : Hp} : ∀ {w : List W} {v : List V}, RWs K γ H w v → RWs K (β ++ γ) H (shWs β.length w) v
  | _, _, .nil => .nil
  | _, _, .cons q t => .cons (RW.shift q) (RWs.shift t)
end
theorem RFs.shift {K : PySem.W.Frag} {β γ : List Addr} {H : Hp} : ∀ {w : List (Str × W)} {v : List (Str × V)}, RFs K γ H w v → RFs K (β ++ γ) H (shFs β.length w) v
  | _, _, .nil => .nil
  | _, _, .cons q t => .cons q.shift (RFs.shift t)
theorem RO.shift {K : PySem.W.Frag} {cl : Nat → Addr} {β γ : List Addr} {H : Hp} {a : Addr} {o : O} (q : RO K cl γ H a o) : RO K cl (β ++ γ) H a (shO β.length o) := by
  cases o with
  | lst ws => obtain ⟨vs, e, t⟩ := q; exact ⟨vs, e, t.shift⟩
  | ins c fs => obtain ⟨dx, fs', e, t⟩ := q; exact ⟨dx, fs', e, t.shift⟩
theorem spD_callP {K : PySem.W.Frag} {cl : Nat → Addr} {np : Nat} {f : List W → Mem → R W} {vs : List V} {H : Hp} {Q : VK} {E : XK} (h : spD K cl np (callP f) vs H Q E) : spD K cl np f vs H Q E := by
  obtain ⟨hl, β, m, ws, w, m', r, t, e, k⟩ := h
  unfold callP at e
  split at e
  · rename_i hp
    split at e
    · rename_i w1 m1 e1
      refine ⟨hl, [], [], ws, w1, m1, ⟨rfl, List.nodup_nil, fun {n o a} h => by simp at h⟩, t.pure hp, e1, fun β' H' v x r' q => ?_⟩
      have kp : ∀ {a : Addr} {o : HO}, H a = some o → H' a = some o := fun h => x.keep h (by simp) (by simp)
      have x2 : Ext β H β H' := ⟨⟨[], by simp, by simp⟩, fun h _ _ => kp h⟩
      have r2 : Rel K cl β m H' := ⟨r.len, r.nd, fun h1 h2 => by
        have q := r.obj h1 h2
        obtain ⟨u, e, _⟩ := q.ex
        exact q.mono r x2 ((kp e).trans e.symm)⟩
      split at e
      · rename_i hw
        cases e
        exact k β H' v x2 r2 (q.pure hw)
      · cases e
        obtain ⟨γ, hγ, fresh⟩ := x.pre
        rw [List.nil_append] at hγ
        subst hγ
        rw [← r.len] at k
        refine k (β ++ β') H' v ⟨⟨β', rfl, fresh⟩, fun h _ _ => kp h⟩ ⟨by simp [r.len, r'.len], ?_, fun {n o a} h1 h2 => ?_⟩ q.shift
        · rw [List.nodup_append]
          refine ⟨r.nd, r'.nd, fun a ha b hb => ?_⟩
          rintro rfl
          obtain ⟨u, e, _⟩ := r.ex ha
          rw [fresh a hb] at e; cases e
        · by_cases hn : n < β.length
          · rw [List.getElem?_append_left (by rw [← r.len]; exact hn)] at h1
            rw [List.getElem?_append_left hn] at h2
            exact (r2.obj h1 h2).sub fun {n a} h => by rw [List.getElem?_append_left (List.getElem?_eq_some_iff.mp h).1]; exact h
          · rw [List.getElem?_append_right (by rw [← r.len]; omega), List.getElem?_map] at h1
            rw [List.getElem?_append_right (by omega)] at h2
            simp only [Option.map_eq_some_iff] at h1
            obtain ⟨o', h1, rfl⟩ := h1
            rw [← r.len] at h1
            exact (r'.obj h1 h2).shift
    · cases e
  · exact ⟨hl, β, m, ws, w, m', r, t, e, k⟩
section
variable {P : Program} {w : World} {K : PySem.W.Frag} {mg : Str → Option Value} {base : Heap} {cl : Nat → Addr} {fns : List (Str × (Nat × Nat))} {gl : List (Str × W)} {prog : List Fn} {fuel : Nat}
def FF (K : PySem.W.Frag) (mg : Str → Option Value) (fns : List (Str × (Nat × Nat))) (gl : List (Str × W)) (prog : List Fn) (x : Str) (i np : Nat) : Prop :=
  ∃ (qual : Str) (st : Stmt) (f : Addr) (fd : FuncData) (N ps : List Str) (body : Ss), ps.length = np ∧ Fun K x qual st f fd ∧ FnScope N ps (defScope st) ∧ cSs (cS 60 ⟨N, (defScope st).names, fns, gl⟩) (defBody st) = some body ∧ prog[i]? = some ⟨np, N.length, body⟩ ∧ mg x = some (.ref f) ∧ Binds K fd ps []
theorem RL.start {β : List Addr} {H : Hp} {ws : List W} {vs : List V} {N : List Str} (t : RWs K β H ws vs) : RL K β H (startL N.length ws) (L2.start N vs) := by
  refine ⟨?_, fun {i w} h => ?_⟩
  · unfold startL L2.start
    simp [t.length]
  · unfold startL at h
    by_cases hi : i < ws.length
    · rw [List.getElem?_append_left (by simpa using hi), List.getElem?_map] at h
      simp only [Option.map_eq_some_iff] at h
      obtain ⟨w', h1, h2⟩ := h
      cases h2
      obtain ⟨v, e, q⟩ := t.get h1
      refine ⟨v, ?_, q⟩
      unfold L2.start
      rw [List.getElem?_append_left (by rw [List.length_map, ← t.length]; exact hi), List.getElem?_map, e]
      rfl
    · rw [List.getElem?_append_right (by simpa using hi), List.getElem?_replicate] at h
      split at h <;> cases h
theorem fn_sound (hblt : ∀ x ∈ bnames, mg x = none) (hgl : ∀ {x : Str} {w : W}, gl.lookup x = some w → ∃ u v, mg x = some u ∧ RelV v u ∧ ∀ β H, RW K β H w v) {n : Nat}
    (hfn : ∀ {x : Str} {i np : Nat}, fns.lookup x = some (i, np) → ∃ (fa : Addr) (fd : FuncData) (ps : List Str), ps.length = np ∧ mg x = some (.ref fa) ∧ PySem.W.keepIn K (.ref fa) = true ∧ Binds K fd ps [] ∧ FnOk P w K mg base CX0 n fa fd ps (spD K cl ps.length (runN prog fuel n i)))
    {x qual : Str} {st : Stmt} {f : Addr} {fd : FuncData} {N ps : List Str} {body : Ss} {i : Nat} (F : Fun K x qual st f fd) (S : FnScope N ps (defScope st)) (hb : cSs (cS 60 ⟨N, (defScope st).names, fns, gl⟩) (defBody st) = some body) (hi : prog[i]? = some ⟨ps.length, N.length, body⟩) :
    FnOk P w K mg base CX0 (n + 1) f fd ps (spD K cl ps.length (runN prog fuel (n + 1) i)) := by
  refine F.ok S (fun vs H Q E h => h.1) (fun cdv A outer s H vs Q E hr h => ?_)
  obtain ⟨hl, β, m, ws, wv, m', r, t, e, k⟩ := h
  have o : Ok (cxOf CX0 P w K mg base N qual (defScope st) f cdv A outer s H E).nox cl ⟨fun f => callP (runN prog fuel n f), fuel⟩ ⟨N, (defScope st).names, fns, gl⟩ := by
    refine ⟨rfl, S.nd, fun {x k} hk hv => ?_, fun {x k} hk hv => ?_, fun {x} hk => hk, fun {x} hk => hk, rfl, hr.units, hr.hd, hblt, fun {x i np} hx => ?_, hgl⟩
    · rcases hv with rfl | rfl | rfl
      · exact .inl hk
      · exact .inr (.inl hk)
      · exact .inr (.inr hk)
    · rcases hv with rfl | rfl
      · exact ⟨.inl hk, .inl rfl⟩
      · exact ⟨.inr hk, .inl rfl⟩
    · obtain ⟨fa, fd, ps, h1, h2, h3, h4, h5⟩ := hfn hx
      exact ⟨n, fa, fd, ps, h1, hr, h2, h3, h4, h5.imp fun _ _ _ _ => spD_callP⟩
  refine ⟨_, ss_ok (fun s d h => cS_ok o rfl S.kind PassesOwn.never 60 s d h) hb, ?_⟩
  simp only [runN, hi] at e
  split at e
  · obtain ⟨ff, m1, e1, e2⟩ := R.bind_ok e
    refine ⟨β, startL N.length ws, m, ff, m1, r, RL.start t, e1, fun β1 H1 x1 r1 => ?_⟩
    cases ff with
    | nx ρ =>
      simp only [outF] at e2
      cases e2
      exact fun σ _ => k _ _ _ x1 r1 .non
    | rt w =>
      simp only [outF] at e2
      cases e2
      exact fun v q => k _ _ _ x1 r1 q
    | bk ρ => simp only [outF] at e2; cases e2
    | ct ρ => simp only [outF] at e2; cases e2
  · cases e
theorem sound (hF : ∀ {x : Str} {i np : Nat}, fns.lookup x = some (i, np) → FF K mg fns gl prog x i np) (hblt : ∀ x ∈ bnames, mg x = none) (hgl : ∀ {x : Str} {w : W}, gl.lookup x = some w → ∃ u v, mg x = some u ∧ RelV v u ∧ ∀ β H, RW K β H w v) :
    ∀ (n : Nat) {x : Str} {i np : Nat}, fns.lookup x = some (i, np) → ∃ (fa : Addr) (fd : FuncData) (ps : List Str), ps.length = np ∧ mg x = some (.ref fa) ∧ PySem.W.keepIn K (.ref fa) = true ∧ Binds K fd ps [] ∧ FnOk P w K mg base CX0 n fa fd ps (spD K cl ps.length (runN prog fuel n i))
  | 0, x, i, np, h => by
    obtain ⟨qual, st, f, fd, N, ps, body, h1, F, S, hb, hi, hm, hB⟩ := hF h
    refine ⟨f, fd, ps, h1, hm, F.kp, hB, ⟨fun vs H Q E q => q.1, fun A outer s H args us vs Q E hr he hbb hv hs => ?_⟩⟩
    obtain ⟨_, _, _, _, _, _, _, _, e, _⟩ := hs
    cases e
  | n + 1, x, i, np, h => by
    obtain ⟨qual, st, f, fd, N, ps, body, h1, F, S, hb, hi, hm, hB⟩ := hF h
    refine ⟨f, fd, ps, h1, hm, F.kp, hB, fn_sound hblt hgl (fun hx => sound hF hblt hgl n hx) F S hb (by rw [h1]; exact hi)⟩
end
theorem law_walk {l : PySem.W.OpenLaw} {q : Program} {loose : List Str} {XP : (Str → Option Value) → Heap → Prop} {YP : World → Heap → Prop} {d : DefRec} {K : Params → PySem.W.Frag} {cl : Params → Nat → Addr} {prog : List Fn} {fuel i : Nat} {x : Str}
    (hn : l.most = some 63) (hdf : d.params.defaults = []) (hY : ∀ (w : World) (h : Heap), YP w h → (K w.params).In h)
    (F : ∀ (w : World) (mg : Str → Option Value) (fa : Addr) (h : Heap), (K w.params).In h → h.Ns mainGlobals mg → mg d.name = some (.ref fa) →
      ∃ fd : FuncData, (∀ (s : Shared) (u : Value), BindsTo s fd ⟨[u], []⟩ [(x, u)]) ∧
        ∀ base : Heap, (K w.params).In base → base.Ns mainGlobals mg → FnOk l.prog w (K w.params) mg base CX0 40 fa fd [x] (spD (K w.params) (cl w.params) 1 (runN prog fuel 40 i)))
    (hlaw : ∀ ns : List Int, ns.length ≤ 63 → ∃ m', runN prog fuel 40 i [.fz (ns.map .int)] [] = .ok (.bl true) m') :
    PySem.W.WalkO q loose XP YP l.row.toRowW d [] (fun f vs => PySem.call f vs) := by
  refine L2.walk_of (n := 63) (k := 40) (x := x) (CX := fun _ => CX0) (sp := fun w => spD (K w.params) (cl w.params) 1 (runN prog fuel 40 i)) hn (by decide) hdf ⟨rfl, by decide, by decide, rfl⟩ hY F (fun w H a ns hl hO hS => ?_) fun _ _ _ _ _ z => z
  obtain ⟨m', e⟩ := hlaw ns hl
  have sf : SqF (K w.params) H a (ns.map V.int) := by
    rcases hS with (h | ⟨o, h⟩) | h
    · rcases hO a with z | ⟨o, xs, z⟩
      · rw [h] at z; cases z
      · rw [h] at z; cases z
    · exact .inl ⟨o, h⟩
    · exact .inr h
  have ri : ∀ ns : List Int, RWs (K w.params) [] H (ns.map W.int) (ns.map V.int) := fun ns => by
    induction ns with
    | nil => exact .nil
    | cons n r ih => exact .cons (.int n) ih
  refine ⟨rfl, [], [], [.fz (ns.map .int)], .bl true, m', ⟨rfl, List.nodup_nil, fun {n o a} h => by simp at h⟩, .cons (.fz sf (ri ns)) .nil, e, fun β' H' v _ _ q => ?_⟩
  cases q
  rfl
end D
end
section
set_option Elab.async false
set_option linter.all false
set_option maxRecDepth 100000
set_option autoImplicit false
namespace D
open PySem
section
variable {get : Mem → Nat → Nx} {t : T} {test : Loc → Mem → R Bool} {body : Loc → Mem → List W → R (List W × Loc)} {bod : Loc → Mem → R F} {k i : Nat} {ρ ρ1 ρ2 : Loc} {m m1 m2 : Mem} {acc acc2 : List W} {x w : W}
theorem compN_fin (h : get m i = .fin) : compN get t test body k i ρ m acc = .ok (acc, ρ) m := by unfold compN; rw [h]
theorem compN_it (h : get m i = .it x) (hb : bindT t x ρ = some ρ1) (ht : test ρ1 m = .ok true m1) (he : body ρ1 m1 acc = .ok (acc2, ρ2) m2) : compN get t test body (k + 1) i ρ m acc = compN get t test body k (i + 1) ρ2 m2 acc2 := by
  rw [compN, h]; simp only [hb, ht, R.bind, if_true, he]
theorem compN_skip (h : get m i = .it x) (hb : bindT t x ρ = some ρ1) (ht : test ρ1 m = .ok false m1) : compN get t test body (k + 1) i ρ m acc = compN get t test body k (i + 1) ρ1 m1 acc := by
  rw [compN, h]; simp only [hb, ht, R.bind, Bool.false_eq_true, if_false]
theorem forN_fin (h : get m i = .fin) : forN get t bod k i ρ m = .ok (.nx ρ) m := by unfold forN; rw [h]
theorem forN_nx (h : get m i = .it x) (hb : bindT t x ρ = some ρ1) (he : bod ρ1 m = .ok (.nx ρ2) m2) : forN get t bod (k + 1) i ρ m = forN get t bod k (i + 1) ρ2 m2 := by
  rw [forN, h]; simp only [hb, R.bind, he]
theorem forN_ct (h : get m i = .it x) (hb : bindT t x ρ = some ρ1) (he : bod ρ1 m = .ok (.ct ρ2) m2) : forN get t bod (k + 1) i ρ m = forN get t bod k (i + 1) ρ2 m2 := by
  rw [forN, h]; simp only [hb, R.bind, he]
theorem forN_rt (h : get m i = .it x) (hb : bindT t x ρ = some ρ1) (he : bod ρ1 m = .ok (.rt w) m2) : forN get t bod (k + 1) i ρ m = .ok (.rt w) m2 := by
  rw [forN, h]; simp only [hb, R.bind, he]
theorem forN_bk (h : get m i = .it x) (hb : bindT t x ρ = some ρ1) (he : bod ρ1 m = .ok (.bk ρ2) m2) : forN get t bod (k + 1) i ρ m = .ok (.nx ρ2) m2 := by
  rw [forN, h]; simp only [hb, R.bind, he]
end
theorem seq_nx {C : Cx} {s : S} {r : Ss} {ρ ρ1 : Loc} {m m1 : Mem} (h : evS C s ρ m = .ok (.nx ρ1) m1) : evSs C (.cons s r) ρ m = evSs C r ρ1 m1 := by simp only [evSs, h, R.bind]
theorem seq_rt {C : Cx} {s : S} {r : Ss} {ρ : Loc} {m m1 : Mem} {w : W} (h : evS C s ρ m = .ok (.rt w) m1) : evSs C (.cons s r) ρ m = .ok (.rt w) m1 := by simp only [evSs, h, R.bind]
theorem run_rt {P : List Fn} {fuel n f : Nat} {ws : List W} {m m1 : Mem} {w : W} {d : Fn} (hd : P[f]? = some d) (hl : ws.length = d.np) (h : evSs ⟨fun f => callP (D.runN P fuel n f), fuel⟩ d.body (startL d.nl ws) m = .ok (.rt w) m1) : D.runN P fuel (n + 1) f ws m = .ok w m1 := by
  rw [D.runN, hd]; simp only [hl, if_true, h, R.bind, outF]
theorem asg_ok {C : Cx} {i : Nat} {e : E} {ρ : Loc} {m m1 : Mem} {w : W} (h : evE C e ρ m = .ok w m1) : evS C (.asg (.pt (.var i)) e) ρ m = .ok (.nx (ρ.set i (some w))) m1 := by simp only [evS, h, R.bind, evA, bindT]
theorem ret_ok {C : Cx} {e : E} {ρ : Loc} {m m1 : Mem} {w : W} (h : evE C e ρ m = .ok w m1) : evS C (.ret e) ρ m = .ok (.rt w) m1 := by simp only [evS, h, R.bind]
theorem rngI {C : Cx} {e : E} {ρ : Loc} {m m1 : Mem} {n : Nat} (he : evE C e ρ m = .ok (.int n) m1) (h : -(2 ^ 62) ≤ (n : Int) ∧ (n : Int) < 2 ^ 62) : evI C (.rng e) ρ m = .ok (.rng 0 n) m1 := by
  simp only [evI, he, R.bind]
  rw [if_pos h, Int.toNat_natCast]
theorem get_rng_it {lo : Int} {n i : Nat} {m : Mem} (h : i < n) : Src.get (.rng lo n) m i = .it (.int (lo + i)) := by simp only [Src.get, h, if_true]
theorem get_rng_fin {lo : Int} {n i : Nat} {m : Mem} (h : ¬ i < n) : Src.get (.rng lo n) m i = .fin := by simp only [Src.get, h, if_false]
theorem pureI : ∀ ns : List Int, pureWs (ns.map W.int) = true
  | [] => rfl
  | n :: r => by simp [pureWs, pureW, pureI r]
theorem callP_imp {f : List W → Mem → R W} {ws : List W} {m : Mem} (h : pureWs ws = false) : callP f ws m = f ws m := by simp [callP, h]
theorem callP_pure {f : List W → Mem → R W} {ws : List W} {m m1 : Mem} {w : W} (h : pureWs ws = true) (e : f ws [] = .ok w m1) (hw : pureW w = true) : callP f ws m = .ok w m := by simp [callP, h, e, hw]
theorem callP_ref {f : List W → Mem → R W} {ws : List W} {m m1 : Mem} {w : W} (h : pureWs ws = true) (e : f ws [] = .ok w m1) (hw : pureW w = false) : callP f ws m = .ok (shW m.length w) (m ++ m1.map (shO m.length)) := by simp [callP, h, e, hw]
theorem set_same {m : Mem} {p : Nat} {o : O} (h : m[p]? = some o) : m.set p o = m := by
  apply List.ext_getElem?
  intro j
  by_cases e : p = j
  · subst e
    rw [List.getElem?_set_self (List.getElem?_eq_some_iff.mp h).1, h]
  · rw [List.getElem?_set_ne e]
end D
end
section
set_option Elab.async false
set_option linter.all false
set_option maxRecDepth 100000
set_option maxHeartbeats 4000000
set_option autoImplicit false
namespace My
open PySem L2 D
def top (i : Nat) : Stmt := PySem.Challenge.pw_relayholds_k62_parted.main.body.getD i (.Pass ⟨0, 0, 0, 0⟩)
abbrev s0 : Stmt := top 1
def b0 : Ss := (.cons (.asg (.tup (.cons (.pt (.var 3)) (.cons (.pt (.var 4)) .nil))) (.var 1)) (.cons (.asg (.tup (.cons (.pt (.var 5)) (.cons (.pt (.var 6)) .nil))) (.var 2)) (.cons (.ret (.blt .any (.cons (.comp (.gen (.tup (.cons (.var 7) (.cons (.var 8) (.cons (.var 9) (.cons (.var 10) .nil))))) [7, 8, 9, 10] (.zip (.cons (.idx (.var 0) (.var 3)) (.cons (.idx (.var 0) (.var 4)) (.cons (.idx (.var 0) (.var 5)) (.cons (.idx (.var 0) (.var 6)) .nil))))) .nil (.elt (.and (.cmp .Eq (.var 7) (.var 8)) (.and (.cmp .Eq (.var 9) (.var 10)) (.cmp .NotEq (.var 7) (.var 9))))))) .nil))) .nil)))
abbrev s1 : Stmt := top 3
def b1 : Ss := (.cons (.ife (.cmp .Lt (.var 1) (.blt .len (.cons (.var 0) .nil))) (.cons (.ret (.idx (.var 0) (.var 1))) .nil) .nil) (.cons (.ret (.cst (.int 0))) .nil))
abbrev s2 : Stmt := top 4
def b2 : Ss := (.cons (.asg (.pt (.var 2)) (.call 1 (.cons (.var 0) (.cons (.var 1) .nil)))) (.cons (.ret (.lst (.cons (.blt .max (.cons (.cst (.int 0)) (.cons (.bin .Sub (.blt .abs (.cons (.var 2) .nil)) (.bin .Pow (.cst (.int 10)) (.cst (.int 18)))) .nil))) (.cons (.bin .Add (.bin .Add (.bin .Mod (.blt .abs (.cons (.var 2) .nil)) (.cst (.int 2147483629))) (.bin .Mult (.cst (.int 977)) (.var 1))) (.cst (.int 1))) .nil)))) .nil))
abbrev s3 : Stmt := top 5
def b3 : Ss := (.cons (.ife (.cmp .Gt (.idx (.var 0) (.cst (.int 0))) (.cst (.int 0))) (.cons (.asg (.tup (.cons (.sub (.var 0) (.cst (.int 0))) (.cons (.pt (.var 2)) .nil))) (.blt .divmod (.cons (.idx (.var 0) (.cst (.int 0))) (.cons (.var 1) .nil)))) (.cons (.ret (.var 2)) .nil)) .nil) (.cons (.asg (.sub (.var 0) (.cst (.int 1))) (.bin .Mod (.bin .Add (.bin .Mult (.idx (.var 0) (.cst (.int 1))) (.cst (.int 48271))) (.cst (.int 12345))) (.cst (.int 2147483647)))) (.cons (.ret (.bin .Mod (.bin .FloorDiv (.bin .Mod (.bin .Mult (.idx (.var 0) (.cst (.int 1))) (.idx (.var 0) (.cst (.int 1)))) (.cst (.int 2147483629))) (.cst (.int 7))) (.var 1))) .nil)))
abbrev s4 : Stmt := top 6
def b4 : Ss := (.cons (.asg (.pt (.var 1)) (.lst (.cons (.tup .nil) .nil))) (.cons (.for_ (.var 2) (.rng (.var 0)) (.cons (.asg (.pt (.var 1)) (.bin .Add (.comp (.gen (.var 3) [3] (.var 1) .nil (.elt (.bin .Add (.var 3) (.tup (.cons (.cst (.int 0)) .nil)))))) (.comp (.gen (.var 3) [3] (.var 1) .nil (.elt (.bin .Add (.var 3) (.tup (.cons (.cst (.int 1)) .nil)))))))) .nil)) (.cons (.ret (.blt .sorted (.cons (.var 1) .nil))) .nil)))
abbrev s5 : Stmt := top 7
def b5 : Ss := (.cons (.for_ (.var 3) (.rng (.blt .len (.cons (.idx (.var 0) (.cst (.int 0))) .nil))) (.cons (.asg (.pt (.var 4)) (.comp (.gen (.var 5) [5] (.bin .Add (.var 1) (.var 2)) .nil (.elt (.idx (.idx (.var 0) (.var 5)) (.var 3)))))) (.cons (.ife (.cmp .In (.var 4) (.tup (.cons (.lst (.cons (.cst (.int 0)) (.cons (.cst (.int 0)) (.cons (.cst (.int 1)) (.cons (.cst (.int 1)) .nil))))) (.cons (.lst (.cons (.cst (.int 1)) (.cons (.cst (.int 1)) (.cons (.cst (.int 0)) (.cons (.cst (.int 0)) .nil))))) .nil)))) (.cons (.ret (.cst (.bl true))) .nil) .nil) .nil))) (.cons (.ret (.cst (.bl false))) .nil))
abbrev s6 : Stmt := top 8
def b6 : Ss := (.cons (.asg (.pt (.var 1)) (.blt .list (.cons (.var 0) .nil))) (.cons (.asg (.pt (.var 2)) (.lrng (.blt .len (.cons (.var 0) .nil)))) (.cons (.asg (.pt (.var 3)) (.lst .nil)) (.cons (.for_ (.var 4) (.var 2) (.cons (.expr (.meth (.var 3) "extend" (.cons (.comp (.gen (.var 8) [8] (.var 2) .nil (.elt (.tup (.cons (.var 4) (.cons (.var 8) .nil)))))) .nil))) .nil)) (.cons (.for_ (.var 5) (.var 3) (.cons (.for_ (.var 6) (.var 3) (.cons (.asg (.pt (.var 7)) (.call 0 (.cons (.var 0) (.cons (.var 5) (.cons (.var 6) .nil))))) (.cons (.ife (.or (.not (.isI (.var 7) "bool")) (.cmp .NotEq (.var 7) (.call 5 (.cons (.var 1) (.cons (.var 5) (.cons (.var 6) .nil)))))) (.cons (.ret (.cst (.bl false))) .nil) .nil) .nil))) .nil)) (.cons (.ret (.cmp .Eq (.var 0) (.var 1))) .nil))))))
abbrev s7 : Stmt := top 9
def b7 : Ss := (.cons (.for_ (.var 1) (.rng (.blt .max (.cons (.cst (.int 1)) (.cons (.blt .min (.cons (.blt .len (.cons (.var 0) .nil)) (.cons (.cst (.int 6)) .nil))) .nil)))) (.cons (.asg (.pt (.var 2)) (.call 2 (.cons (.var 0) (.cons (.var 1) .nil)))) (.cons (.asg (.pt (.var 3)) (.bin .Add (.cst (.int 2)) (.call 3 (.cons (.var 2) (.cons (.cst (.int 3)) .nil))))) (.cons (.asg (.pt (.var 4)) (.bin .Add (.cst (.int 1)) (.blt .int (.cons (.cmp .Gt (.var 3) (.cst (.int 2))) .nil)))) (.cons (.asg (.pt (.var 5)) (.call 4 (.cons (.bin .Add (.var 4) (.call 3 (.cons (.var 2) (.cons (.bin .Sub (.cst (.int 5)) (.var 4)) .nil)))) .nil))) (.cons (.asg (.pt (.var 6)) (.comp (.gen (.var 8) [8] (.rng (.var 3)) .nil (.elt (.meth (.var 5) "pop" (.cons (.call 3 (.cons (.var 2) (.cons (.blt .len (.cons (.var 5) .nil)) .nil))) .nil)))))) (.cons (.ife (.not (.call 6 (.cons (.var 6) .nil))) (.cons (.ret (.cst (.bl false))) .nil) .nil) (.cons (.asg (.pt (.var 7)) (.call 3 (.cons (.var 2) (.cons (.var 3) .nil)))) (.cons (.ife (.cmp .NotEq (.var 5) (.lst .nil)) (.cons (.asg (.sub (.var 6) (.var 7)) (.idx (.var 5) (.call 3 (.cons (.var 2) (.cons (.blt .len (.cons (.var 5) .nil)) .nil))))) .nil) .nil) (.cons (.ife (.not (.call 6 (.cons (.var 6) .nil))) (.cons (.ret (.cst (.bl false))) .nil) .nil) .nil)))))))))) (.cons (.ret (.cst (.bl true))) .nil))
def fns : List (Str × (Nat × Nat)) := [("are_parted", (0, 3)), ("_law_cell_at", (1, 2)), ("_law_pot", (2, 2)), ("_law_digit", (3, 2)), ("_law_all", (4, 1)), ("_law_is_parted", (5, 3)), ("_law_right", (6, 1)), ("law", (7, 1))]
def prog : List Fn := [⟨3, 11, b0⟩, ⟨2, 2, b1⟩, ⟨2, 3, b2⟩, ⟨2, 3, b3⟩, ⟨1, 4, b4⟩, ⟨3, 6, b5⟩, ⟨1, 9, b6⟩, ⟨1, 9, b7⟩]
theorem e0 : cSs (cS 60 ⟨["names", "one", "other", "s", "t", "u", "v", "a", "b", "c", "d"], (defScope s0).names, fns, []⟩) (defBody s0) = some b0 := by kernel_rfl
theorem sc0 : FnScope ["names", "one", "other", "s", "t", "u", "v", "a", "b", "c", "d"] ["names", "one", "other"] (defScope s0) := ⟨rfl, rfl, rfl, by decide +kernel, rfl, by decide +kernel, by decide +kernel⟩
theorem e1 : cSs (cS 60 ⟨["_law_script", "_law_k"], (defScope s1).names, fns, []⟩) (defBody s1) = some b1 := by kernel_rfl
theorem sc1 : FnScope ["_law_script", "_law_k"] ["_law_script", "_law_k"] (defScope s1) := ⟨rfl, rfl, rfl, by decide +kernel, rfl, by decide +kernel, by decide +kernel⟩
theorem e2 : cSs (cS 60 ⟨["_law_script", "_law_k", "_law_cell"], (defScope s2).names, fns, []⟩) (defBody s2) = some b2 := by kernel_rfl
theorem sc2 : FnScope ["_law_script", "_law_k", "_law_cell"] ["_law_script", "_law_k"] (defScope s2) := ⟨rfl, rfl, rfl, by decide +kernel, rfl, by decide +kernel, by decide +kernel⟩
theorem e3 : cSs (cS 60 ⟨["_law_pot_here", "_law_many", "_law_digit_here"], (defScope s3).names, fns, []⟩) (defBody s3) = some b3 := by kernel_rfl
theorem sc3 : FnScope ["_law_pot_here", "_law_many", "_law_digit_here"] ["_law_pot_here", "_law_many"] (defScope s3) := ⟨rfl, rfl, rfl, by decide +kernel, rfl, by decide +kernel, by decide +kernel⟩
theorem e4 : cSs (cS 60 ⟨["_law_size", "_law_found", "_law_k", "_law_tag"], (defScope s4).names, fns, []⟩) (defBody s4) = some b4 := by kernel_rfl
theorem sc4 : FnScope ["_law_size", "_law_found", "_law_k", "_law_tag"] ["_law_size"] (defScope s4) := ⟨rfl, rfl, rfl, by decide +kernel, rfl, by decide +kernel, by decide +kernel⟩
theorem e5 : cSs (cS 60 ⟨["_law_tags", "_law_one", "_law_other", "_law_place", "_law_some", "_law_s"], (defScope s5).names, fns, []⟩) (defBody s5) = some b5 := by kernel_rfl
theorem sc5 : FnScope ["_law_tags", "_law_one", "_law_other", "_law_place", "_law_some", "_law_s"] ["_law_tags", "_law_one", "_law_other"] (defScope s5) := ⟨rfl, rfl, rfl, by decide +kernel, rfl, by decide +kernel, by decide +kernel⟩
theorem e6 : cSs (cS 60 ⟨["_law_tags", "_law_kept", "_law_states", "_law_rows", "_law_s", "_law_one", "_law_other", "_law_told", "_law_t"], (defScope s6).names, fns, []⟩) (defBody s6) = some b6 := by kernel_rfl
theorem sc6 : FnScope ["_law_tags", "_law_kept", "_law_states", "_law_rows", "_law_s", "_law_one", "_law_other", "_law_told", "_law_t"] ["_law_tags"] (defScope s6) := ⟨rfl, rfl, rfl, by decide +kernel, rfl, by decide +kernel, by decide +kernel⟩
theorem e7 : cSs (cS 60 ⟨["_law_script", "_law_k", "_law_pot_here", "_law_many", "_law_least", "_law_left", "_law_tags", "_law_at", "_law_s"], (defScope s7).names, fns, []⟩) (defBody s7) = some b7 := by kernel_rfl
theorem sc7 : FnScope ["_law_script", "_law_k", "_law_pot_here", "_law_many", "_law_least", "_law_left", "_law_tags", "_law_at", "_law_s"] ["_law_script"] (defScope s7) := ⟨rfl, rfl, rfl, by decide +kernel, rfl, by decide +kernel, by decide +kernel⟩
theorem all_mk {l : PySem.W.OpenLaw} {w : World} {K : PySem.W.Frag} {h : Heap} {mg : Str → Option Value} {fa : Addr} {cl : Nat → Addr} {fuel : Nat} (X : K.In h) (G : h.Ns mainGlobals mg) (hfa : mg "law" = some (.ref fa))
    {f0 : Addr} {od0 an0 : Option Addr} {sl0 : Array (Option Value)} {oc0 kV0 dc0 pm0 cd0 ct0 : Value}
    {f1 : Addr} {od1 an1 : Option Addr} {sl1 : Array (Option Value)} {oc1 kV1 dc1 pm1 cd1 ct1 : Value}
    {f2 : Addr} {od2 an2 : Option Addr} {sl2 : Array (Option Value)} {oc2 kV2 dc2 pm2 cd2 ct2 : Value}
    {f3 : Addr} {od3 an3 : Option Addr} {sl3 : Array (Option Value)} {oc3 kV3 dc3 pm3 cd3 ct3 : Value}
    {f4 : Addr} {od4 an4 : Option Addr} {sl4 : Array (Option Value)} {oc4 kV4 dc4 pm4 cd4 ct4 : Value}
    {f5 : Addr} {od5 an5 : Option Addr} {sl5 : Array (Option Value)} {oc5 kV5 dc5 pm5 cd5 ct5 : Value}
    {f6 : Addr} {od6 an6 : Option Addr} {sl6 : Array (Option Value)} {oc6 kV6 dc6 pm6 cd6 ct6 : Value}
    {f7 : Addr} {od7 an7 : Option Addr} {sl7 : Array (Option Value)} {oc7 kV7 dc7 pm7 cd7 ct7 : Value}
    (a0 : PySem.W.nsIn K mainGlobals "are_parted" = some (some (.ref f0)))
    (l0 : K.lookup f0 = some ⟨oc0, od0, .func (PySem.W.fnOf "are_parted" "are_parted" (defArgs s0) (defBody s0) (defScope s0) .none kV0 dc0 pm0 an0 cd0 ct0), sl0⟩)
    (c0 : PySem.W.codeIn K cd0 "are_parted" = true)
    (k0 : PySem.W.keepIn K (.ref f0) = true)
    (a1 : PySem.W.nsIn K mainGlobals "_law_cell_at" = some (some (.ref f1)))
    (l1 : K.lookup f1 = some ⟨oc1, od1, .func (PySem.W.fnOf "_law_cell_at" "_law_cell_at" (defArgs s1) (defBody s1) (defScope s1) .none kV1 dc1 pm1 an1 cd1 ct1), sl1⟩)
    (c1 : PySem.W.codeIn K cd1 "_law_cell_at" = true)
    (k1 : PySem.W.keepIn K (.ref f1) = true)
    (a2 : PySem.W.nsIn K mainGlobals "_law_pot" = some (some (.ref f2)))
    (l2 : K.lookup f2 = some ⟨oc2, od2, .func (PySem.W.fnOf "_law_pot" "_law_pot" (defArgs s2) (defBody s2) (defScope s2) .none kV2 dc2 pm2 an2 cd2 ct2), sl2⟩)
    (c2 : PySem.W.codeIn K cd2 "_law_pot" = true)
    (k2 : PySem.W.keepIn K (.ref f2) = true)
    (a3 : PySem.W.nsIn K mainGlobals "_law_digit" = some (some (.ref f3)))
    (l3 : K.lookup f3 = some ⟨oc3, od3, .func (PySem.W.fnOf "_law_digit" "_law_digit" (defArgs s3) (defBody s3) (defScope s3) .none kV3 dc3 pm3 an3 cd3 ct3), sl3⟩)
    (c3 : PySem.W.codeIn K cd3 "_law_digit" = true)
    (k3 : PySem.W.keepIn K (.ref f3) = true)
    (a4 : PySem.W.nsIn K mainGlobals "_law_all" = some (some (.ref f4)))
    (l4 : K.lookup f4 = some ⟨oc4, od4, .func (PySem.W.fnOf "_law_all" "_law_all" (defArgs s4) (defBody s4) (defScope s4) .none kV4 dc4 pm4 an4 cd4 ct4), sl4⟩)
    (c4 : PySem.W.codeIn K cd4 "_law_all" = true)
    (k4 : PySem.W.keepIn K (.ref f4) = true)
    (a5 : PySem.W.nsIn K mainGlobals "_law_is_parted" = some (some (.ref f5)))
    (l5 : K.lookup f5 = some ⟨oc5, od5, .func (PySem.W.fnOf "_law_is_parted" "_law_is_parted" (defArgs s5) (defBody s5) (defScope s5) .none kV5 dc5 pm5 an5 cd5 ct5), sl5⟩)
    (c5 : PySem.W.codeIn K cd5 "_law_is_parted" = true)
    (k5 : PySem.W.keepIn K (.ref f5) = true)
    (a6 : PySem.W.nsIn K mainGlobals "_law_right" = some (some (.ref f6)))
    (l6 : K.lookup f6 = some ⟨oc6, od6, .func (PySem.W.fnOf "_law_right" "_law_right" (defArgs s6) (defBody s6) (defScope s6) .none kV6 dc6 pm6 an6 cd6 ct6), sl6⟩)
    (c6 : PySem.W.codeIn K cd6 "_law_right" = true)
    (k6 : PySem.W.keepIn K (.ref f6) = true)
    (a7 : PySem.W.nsIn K mainGlobals "law" = some (some (.ref f7)))
    (l7 : K.lookup f7 = some ⟨oc7, od7, .func (PySem.W.fnOf "law" "law" (defArgs s7) (defBody s7) (defScope s7) .none kV7 dc7 pm7 an7 cd7 ct7), sl7⟩)
    (c7 : PySem.W.codeIn K cd7 "law" = true)
    (k7 : PySem.W.keepIn K (.ref f7) = true)
    (z_len : PySem.W.nsIn K mainGlobals "len" = some none)
    (z_abs : PySem.W.nsIn K mainGlobals "abs" = some none)
    (z_max : PySem.W.nsIn K mainGlobals "max" = some none)
    (z_min : PySem.W.nsIn K mainGlobals "min" = some none)
    (z_divmod : PySem.W.nsIn K mainGlobals "divmod" = some none)
    (z_all : PySem.W.nsIn K mainGlobals "all" = some none)
    (z_any : PySem.W.nsIn K mainGlobals "any" = some none)
    (z_list : PySem.W.nsIn K mainGlobals "list" = some none)
    (z_tuple : PySem.W.nsIn K mainGlobals "tuple" = some none)
    (z_int : PySem.W.nsIn K mainGlobals "int" = some none)
    (z_bool : PySem.W.nsIn K mainGlobals "bool" = some none)
    (z_str : PySem.W.nsIn K mainGlobals "str" = some none)
    (z_dict : PySem.W.nsIn K mainGlobals "dict" = some none)
    (z_isinstance : PySem.W.nsIn K mainGlobals "isinstance" = some none)
    (z_range : PySem.W.nsIn K mainGlobals "range" = some none)
    (z_enumerate : PySem.W.nsIn K mainGlobals "enumerate" = some none)
    (z_zip : PySem.W.nsIn K mainGlobals "zip" = some none)
    (z_sorted : PySem.W.nsIn K mainGlobals "sorted" = some none)
    : ∃ fd : FuncData, (∀ (s : Shared) (v : Value), BindsTo s fd ⟨[v], []⟩ [("_law_script", v)]) ∧ ∀ base : Heap, K.In base → base.Ns mainGlobals mg → FnOk l.prog w K mg base CX0 40 fa fd ["_law_script"] (spD K cl 1 (runN prog fuel 40 7)) := by
  have e := hfa.symm.trans (PySem.W.mg_of X G a7)
  cases e
  have F0 := fun_mk (st := s0) l0 c0 k0
  have B0 := F0.binds (ps := ["names", "one", "other"]) fun _ _ _ _ _ _ us hl => match us, hl with | [_, _, _], _ => rfl
  have F1 := fun_mk (st := s1) l1 c1 k1
  have B1 := F1.binds (ps := ["_law_script", "_law_k"]) fun _ _ _ _ _ _ us hl => match us, hl with | [_, _], _ => rfl
  have F2 := fun_mk (st := s2) l2 c2 k2
  have B2 := F2.binds (ps := ["_law_script", "_law_k"]) fun _ _ _ _ _ _ us hl => match us, hl with | [_, _], _ => rfl
  have F3 := fun_mk (st := s3) l3 c3 k3
  have B3 := F3.binds (ps := ["_law_pot_here", "_law_many"]) fun _ _ _ _ _ _ us hl => match us, hl with | [_, _], _ => rfl
  have F4 := fun_mk (st := s4) l4 c4 k4
  have B4 := F4.binds (ps := ["_law_size"]) fun _ _ _ _ _ _ us hl => match us, hl with | [_], _ => rfl
  have F5 := fun_mk (st := s5) l5 c5 k5
  have B5 := F5.binds (ps := ["_law_tags", "_law_one", "_law_other"]) fun _ _ _ _ _ _ us hl => match us, hl with | [_, _, _], _ => rfl
  have F6 := fun_mk (st := s6) l6 c6 k6
  have B6 := F6.binds (ps := ["_law_tags"]) fun _ _ _ _ _ _ us hl => match us, hl with | [_], _ => rfl
  have F7 := fun_mk (st := s7) l7 c7 k7
  have B7 := F7.binds (ps := ["_law_script"]) fun _ _ _ _ _ _ us hl => match us, hl with | [_], _ => rfl
  have hblt : ∀ x ∈ bnames, mg x = none := by
    intro x hx
    simp only [bnames, List.mem_cons, List.not_mem_nil, or_false] at hx
    rcases hx with rfl | rfl | rfl | rfl | rfl | rfl | rfl | rfl | rfl | rfl | rfl | rfl | rfl | rfl | rfl | rfl | rfl | rfl
    · exact PySem.W.mg_none_of X G z_len
    · exact PySem.W.mg_none_of X G z_abs
    · exact PySem.W.mg_none_of X G z_max
    · exact PySem.W.mg_none_of X G z_min
    · exact PySem.W.mg_none_of X G z_divmod
    · exact PySem.W.mg_none_of X G z_all
    · exact PySem.W.mg_none_of X G z_any
    · exact PySem.W.mg_none_of X G z_list
    · exact PySem.W.mg_none_of X G z_tuple
    · exact PySem.W.mg_none_of X G z_int
    · exact PySem.W.mg_none_of X G z_bool
    · exact PySem.W.mg_none_of X G z_str
    · exact PySem.W.mg_none_of X G z_dict
    · exact PySem.W.mg_none_of X G z_isinstance
    · exact PySem.W.mg_none_of X G z_range
    · exact PySem.W.mg_none_of X G z_enumerate
    · exact PySem.W.mg_none_of X G z_zip
    · exact PySem.W.mg_none_of X G z_sorted
  have hF : ∀ {x : Str} {i np : Nat}, fns.lookup x = some (i, np) → FF K mg fns [] prog x i np := by
    intro x i np hx
    have hm := lookup_mem hx
    simp only [fns, List.mem_cons, Prod.mk.injEq, List.not_mem_nil, or_false] at hm
    rcases hm with ⟨rfl, rfl, rfl⟩ | ⟨rfl, rfl, rfl⟩ | ⟨rfl, rfl, rfl⟩ | ⟨rfl, rfl, rfl⟩ | ⟨rfl, rfl, rfl⟩ | ⟨rfl, rfl, rfl⟩ | ⟨rfl, rfl, rfl⟩ | ⟨rfl, rfl, rfl⟩
    · exact ⟨"are_parted", s0, _, _, ["names", "one", "other", "s", "t", "u", "v", "a", "b", "c", "d"], ["names", "one", "other"], b0, rfl, F0, sc0, e0, rfl, PySem.W.mg_of X G a0, B0⟩
    · exact ⟨"_law_cell_at", s1, _, _, ["_law_script", "_law_k"], ["_law_script", "_law_k"], b1, rfl, F1, sc1, e1, rfl, PySem.W.mg_of X G a1, B1⟩
    · exact ⟨"_law_pot", s2, _, _, ["_law_script", "_law_k", "_law_cell"], ["_law_script", "_law_k"], b2, rfl, F2, sc2, e2, rfl, PySem.W.mg_of X G a2, B2⟩
    · exact ⟨"_law_digit", s3, _, _, ["_law_pot_here", "_law_many", "_law_digit_here"], ["_law_pot_here", "_law_many"], b3, rfl, F3, sc3, e3, rfl, PySem.W.mg_of X G a3, B3⟩
    · exact ⟨"_law_all", s4, _, _, ["_law_size", "_law_found", "_law_k", "_law_tag"], ["_law_size"], b4, rfl, F4, sc4, e4, rfl, PySem.W.mg_of X G a4, B4⟩
    · exact ⟨"_law_is_parted", s5, _, _, ["_law_tags", "_law_one", "_law_other", "_law_place", "_law_some", "_law_s"], ["_law_tags", "_law_one", "_law_other"], b5, rfl, F5, sc5, e5, rfl, PySem.W.mg_of X G a5, B5⟩
    · exact ⟨"_law_right", s6, _, _, ["_law_tags", "_law_kept", "_law_states", "_law_rows", "_law_s", "_law_one", "_law_other", "_law_told", "_law_t"], ["_law_tags"], b6, rfl, F6, sc6, e6, rfl, PySem.W.mg_of X G a6, B6⟩
    · exact ⟨"law", s7, _, _, ["_law_script", "_law_k", "_law_pot_here", "_law_many", "_law_least", "_law_left", "_law_tags", "_law_at", "_law_s"], ["_law_script"], b7, rfl, F7, sc7, e7, rfl, PySem.W.mg_of X G a7, B7⟩
  have hgl : ∀ {x : Str} {w : W}, ([] : List (Str × W)).lookup x = some w → ∃ u v, mg x = some u ∧ RelV v u ∧ ∀ β H, RW K β H w v := fun h => nomatch h
  exact ⟨PySem.W.fnOf "law" "law" (defArgs s7) (defBody s7) (defScope s7) .none kV7 dc7 pm7 an7 cd7 ct7, fun s v => .of_eq rfl, fun base _ _ => fn_sound (n := 39) hblt hgl (fun hx => sound (fuel := fuel) hF hblt hgl 39 hx) F7 sc7 e7 rfl⟩
end My
end
section
set_option Elab.async false
set_option linter.all false
set_option maxRecDepth 100000
set_option maxHeartbeats 4000000
namespace My
open PySem D
def fuel : Nat := 1000
theorem q0 : prog[0]? = some ⟨3, 11, b0⟩ := rfl
abbrev Cn (n : Nat) : D.Cx := ⟨fun f => callP (D.runN prog fuel n f), fuel⟩
def parted : List Int → List Int → List Int → List Int → Bool
  | x :: a, y :: b, z :: c, w :: d => (x == y && (z == w && x != z)) || parted a b c d
  | _, _, _, _ => false
def tupI (t : List Int) : W := .tup (t.map .int)
theorem eqI {m : Mem} {x y : Int} : eqW m (.int x) (.int y) = .ok (x == y) m := by simp [eqW, toD, PyData.eqv]
theorem parC {n L : Nat} {m : Mem} {a b c d : List Int} {r0 r1 r2 r3 r4 r5 r6 : Option W} (la : a.length = L) (lb : b.length = L) (lc : c.length = L) (ld : d.length = L) (hL : L ≤ 100) : ∀ (k i : Nat) (r7 r8 r9 r10 : Option W) (acc : List W), i + k = L → acc.length + k ≤ 100 →
    ∃ (bs : List Bool) (s7 s8 s9 s10 : Option W), compN (Src.get (.zip [.tup (a.map .int), .tup (b.map .int), .tup (c.map .int), .tup (d.map .int)])) (.tup (.cons (.var 7) (.cons (.var 8) (.cons (.var 9) (.cons (.var 10) .nil))))) (fun ρ m => evIfs (Cn n) .nil ρ m)
      (fun ρ m acc => evG (Cn n) (.elt (.and (.cmp .Eq (.var 7) (.var 8)) (.and (.cmp .Eq (.var 9) (.var 10)) (.cmp .NotEq (.var 7) (.var 9))))) ρ m acc) k i [r0, r1, r2, r3, r4, r5, r6, r7, r8, r9, r10] m acc
      = .ok (acc ++ bs.map .bl, [r0, r1, r2, r3, r4, r5, r6, s7, s8, s9, s10]) m ∧ bs.any id = parted (a.drop i) (b.drop i) (c.drop i) (d.drop i)
  | 0, i, r7, r8, r9, r10, acc, hi, hacc => by
    refine ⟨[], r7, r8, r9, r10, ?_, ?_⟩
    · rw [compN_fin]
      · simp
      · have h1 : a.length ≤ i := by omega
        have h2 : b.length ≤ i := by omega
        have h3 : c.length ≤ i := by omega
        have h4 : d.length ≤ i := by omega
        simp [Src.get, Src.gets, List.getElem?_eq_none, h1, h2, h3, h4]
    · rw [List.drop_eq_nil_of_le (by omega : a.length ≤ i)]
      simp [parted]
  | k + 1, i, r7, r8, r9, r10, acc, hi, hacc => by
    have h1 : i < a.length := by omega
    have h2 : i < b.length := by omega
    have h3 : i < c.length := by omega
    have h4 : i < d.length := by omega
    obtain ⟨bs, s7, s8, s9, s10, h, e⟩ := parC (n := n) (m := m) (a := a) (b := b) (c := c) (d := d) (r0 := r0) (r1 := r1) (r2 := r2) (r3 := r3) (r4 := r4) (r5 := r5) (r6 := r6) la lb lc ld hL k (i + 1) (some (.int a[i])) (some (.int b[i])) (some (.int c[i])) (some (.int d[i])) (acc ++ [.bl (a[i] == b[i] && (c[i] == d[i] && a[i] != c[i]))]) (by omega) (by simp; omega)
    refine ⟨(a[i] == b[i] && (c[i] == d[i] && a[i] != c[i])) :: bs, s7, s8, s9, s10, ?_, ?_⟩
    · have hl : acc.length < lim := by simp [lim]; omega
      rw [compN_it (x := .tup [.int a[i], .int b[i], .int c[i], .int d[i]]) (ρ1 := [r0, r1, r2, r3, r4, r5, r6, some (.int a[i]), some (.int b[i]), some (.int c[i]), some (.int d[i])]) (m1 := m) (acc2 := acc ++ [.bl (a[i] == b[i] && (c[i] == d[i] && a[i] != c[i]))]) (ρ2 := [r0, r1, r2, r3, r4, r5, r6, some (.int a[i]), some (.int b[i]), some (.int c[i]), some (.int d[i])]) (m2 := m) ?_ ?_ ?_ ?_, h]
      · simp
      · simp [Src.get, Src.gets, h1, h2, h3, h4]
      · simp [bindT, bindTs]
      · simp [evIfs]
      · simp only [evG, evE, R.bind, List.getElem?_cons_succ, List.getElem?_cons_zero, cmpop, eqI]
        cases hx : (a[i] == b[i]) <;> cases hy : (c[i] == d[i]) <;> simp [hl, bne]
    · rw [List.any_cons, e, List.drop_eq_getElem_cons h1, List.drop_eq_getElem_cons h2, List.drop_eq_getElem_cons h3, List.drop_eq_getElem_cons h4, parted]
      rfl
theorem atI_nat {α : Type} {xs : List α} {i : Nat} : L2.atI xs (i : Int) = xs[i]? := by
  unfold L2.atI L2.ixN
  rw [if_pos (by omega)]
  by_cases h : i < xs.length
  · rw [if_pos (by omega)]; simp
  · rw [if_neg (by omega), List.getElem?_eq_none (by omega)]; rfl
theorem idxT {C : D.Cx} {p i j k : Nat} {m : Mem} {ρ : D.Loc} {ts : List (List Int)} {a : List Int} (hm : m[p]? = some (.lst (ts.map tupI))) (h0 : ρ[k]? = some (some (.ref p))) (hj : ρ[j]? = some (some (.int i))) (ha : ts[i]? = some a) : evE C (.idx (.var k) (.var j)) ρ m = .ok (tupI a) m := by
  simp only [evE, h0, hj, R.bind, idxop, getS, getL, hm, atI_nat, List.getElem?_map, ha, Option.map_some]
theorem par {n p L : Nat} {m : Mem} {ts : List (List Int)} {s t u v : Nat} {a b c d : List Int} (hm : m[p]? = some (.lst (ts.map tupI))) (ha : ts[s]? = some a) (hb : ts[t]? = some b) (hc : ts[u]? = some c) (hd : ts[v]? = some d)
    (la : a.length = L) (lb : b.length = L) (lc : c.length = L) (ld : d.length = L) (hL : L ≤ 100) : ∃ ext, D.runN prog fuel (n + 1) 0 [.ref p, .tup [.int s, .int t], .tup [.int u, .int v]] m = .ok (.bl (parted a b c d)) (m ++ ext) := by
  obtain ⟨bs, s7, s8, s9, s10, h, e⟩ := parC (n := n) (m := m) (a := a) (b := b) (c := c) (d := d) (r0 := some (.ref p)) (r1 := some (.tup [.int s, .int t])) (r2 := some (.tup [.int u, .int v])) (r3 := some (.int s)) (r4 := some (.int t)) (r5 := some (.int u)) (r6 := some (.int v)) la lb lc ld hL L 0 none none none none [] (by omega) (by simp; omega)
  refine ⟨[.lst (bs.map .bl)], run_rt q0 rfl ?_⟩
  show evSs (Cn n) b0 [some (.ref p), some (.tup [.int s, .int t]), some (.tup [.int u, .int v]), none, none, none, none, none, none, none, none] m = _
  rw [b0, seq_nx (ρ1 := [some (.ref p), some (.tup [.int s, .int t]), some (.tup [.int u, .int v]), some (.int s), some (.int t), none, none, none, none, none, none]) (m1 := m) (by simp [evS, evE, evA, evAs, bindT, R.bind]), seq_nx (ρ1 := [some (.ref p), some (.tup [.int s, .int t]), some (.tup [.int u, .int v]), some (.int s), some (.int t), some (.int u), some (.int v), none, none, none, none]) (m1 := m) (by simp [evS, evE, evA, evAs, bindT, R.bind])]
  have hI : evI (Cn n) (.zip (.cons (.idx (.var 0) (.var 3)) (.cons (.idx (.var 0) (.var 4)) (.cons (.idx (.var 0) (.var 5)) (.cons (.idx (.var 0) (.var 6)) .nil))))) [some (.ref p), some (.tup [.int s, .int t]), some (.tup [.int u, .int v]), some (.int s), some (.int t), some (.int u), some (.int v), none, none, none, none] m = .ok (.zip [.tup (a.map .int), .tup (b.map .int), .tup (c.map .int), .tup (d.map .int)]) m := by
    have i3 : evE (Cn n) (.idx (.var 0) (.var 3)) [some (.ref p), some (.tup [.int s, .int t]), some (.tup [.int u, .int v]), some (.int s), some (.int t), some (.int u), some (.int v), none, none, none, none] m = .ok (tupI a) m := idxT hm rfl rfl ha
    have i4 : evE (Cn n) (.idx (.var 0) (.var 4)) [some (.ref p), some (.tup [.int s, .int t]), some (.tup [.int u, .int v]), some (.int s), some (.int t), some (.int u), some (.int v), none, none, none, none] m = .ok (tupI b) m := idxT hm rfl rfl hb
    have i5 : evE (Cn n) (.idx (.var 0) (.var 5)) [some (.ref p), some (.tup [.int s, .int t]), some (.tup [.int u, .int v]), some (.int s), some (.int t), some (.int u), some (.int v), none, none, none, none] m = .ok (tupI c) m := idxT hm rfl rfl hc
    have i6 : evE (Cn n) (.idx (.var 0) (.var 6)) [some (.ref p), some (.tup [.int s, .int t]), some (.tup [.int u, .int v]), some (.int s), some (.int t), some (.int u), some (.int v), none, none, none, none] m = .ok (tupI d) m := idxT hm rfl rfl hd
    simp only [evI, evEs, i3, i4, i5, i6, R.bind, srcsOf, srcOf, tupI]
  have hG : evG (Cn n) (.gen (.tup (.cons (.var 7) (.cons (.var 8) (.cons (.var 9) (.cons (.var 10) .nil))))) [7, 8, 9, 10] (.zip (.cons (.idx (.var 0) (.var 3)) (.cons (.idx (.var 0) (.var 4)) (.cons (.idx (.var 0) (.var 5)) (.cons (.idx (.var 0) (.var 6)) .nil))))) .nil (.elt (.and (.cmp .Eq (.var 7) (.var 8)) (.and (.cmp .Eq (.var 9) (.var 10)) (.cmp .NotEq (.var 7) (.var 9)))))) [some (.ref p), some (.tup [.int s, .int t]), some (.tup [.int u, .int v]), some (.int s), some (.int t), some (.int u), some (.int v), none, none, none, none] m [] = .ok (bs.map .bl, [some (.ref p), some (.tup [.int s, .int t]), some (.tup [.int u, .int v]), some (.int s), some (.int t), some (.int u), some (.int v), s7, s8, s9, s10]) m := by
    rw [evG, hI]
    simp only [R.bind, Src.len, Src.lens, List.length_map, la, lb, lc, ld, Nat.max_self, clr, Nat.max_zero]
    simpa using h
  have hE := congrArg (fun r => R.bind r fun p m => D.new (.lst p.1) m) hG
  rw [seq_rt (ret_ok (w := .bl (parted a b c d)) (m1 := m ++ [.lst (bs.map .bl)]) ?_)]
  rw [evE, evEs, evE, hG]
  have hb' : bools (bs.map .bl) = some bs := by
    clear h e hG hE
    induction bs with
    | nil => rfl
    | cons x r ih => simp [bools, ih]
  simp [R.bind, D.new, evEs, bltop, getL, hb']
  simpa using e
theorem q5 : prog[5]? = some ⟨3, 6, b5⟩ := rfl
theorem eltI {C : D.Cx} {p i s : Nat} {M : Mem} {ρ : D.Loc} {ts : List (List Int)} {a : List Int} {y : Int} (hm : M[p]? = some (.lst (ts.map tupI))) (h0 : ρ[0]? = some (some (.ref p))) (h5 : ρ[5]? = some (some (.int s))) (h3 : ρ[3]? = some (some (.int i))) (ha : ts[s]? = some a) (hy : a[i]? = some y) : evE C (.idx (.idx (.var 0) (.var 5)) (.var 3)) ρ M = .ok (.int y) M := by
  rw [evE, idxT hm h0 h5 ha]
  simp only [R.bind, evE, h3, idxop, tupI, getS, atI_nat, List.getElem?_map, hy, Option.map_some]
theorem someC {n p i s t u v : Nat} {M : Mem} {ts : List (List Int)} {a b c d : List Int} {x y z w : Int} {o4 o5 : Option W} (hm : M[p]? = some (.lst (ts.map tupI))) (ha : ts[s]? = some a) (hb : ts[t]? = some b) (hc : ts[u]? = some c) (hd : ts[v]? = some d) (hx : a[i]? = some x) (hy : b[i]? = some y) (hz : c[i]? = some z) (hw : d[i]? = some w) :
    evE (Cn n) (.comp (.gen (.var 5) [5] (.bin .Add (.var 1) (.var 2)) .nil (.elt (.idx (.idx (.var 0) (.var 5)) (.var 3))))) [some (.ref p), some (.tup [.int s, .int t]), some (.tup [.int u, .int v]), some (.int i), o4, o5] M = .ok (.ref M.length) (M ++ [.lst [.int x, .int y, .int z, .int w]]) := by
  have hI : evI (Cn n) (.bin .Add (.var 1) (.var 2)) [some (.ref p), some (.tup [.int s, .int t]), some (.tup [.int u, .int v]), some (.int i), o4, o5] M = .ok (.tup [.int s, .int t, .int u, .int v]) M := by
    simp [evI, evE, R.bind, binop, lim, srcOf]
  have hG : evG (Cn n) (.gen (.var 5) [5] (.bin .Add (.var 1) (.var 2)) .nil (.elt (.idx (.idx (.var 0) (.var 5)) (.var 3)))) [some (.ref p), some (.tup [.int s, .int t]), some (.tup [.int u, .int v]), some (.int i), o4, o5] M [] = .ok ([.int x, .int y, .int z, .int w], [some (.ref p), some (.tup [.int s, .int t]), some (.tup [.int u, .int v]), some (.int i), o4, some (.int v)]) M := by
    rw [evG, hI]
    simp only [R.bind, Src.len, clr, List.length_cons, List.length_nil]
    rw [compN_it (x := .int s) (ρ1 := [some (.ref p), some (.tup [.int s, .int t]), some (.tup [.int u, .int v]), some (.int i), o4, some (.int s)]) (m1 := M) (acc2 := [.int x]) (ρ2 := [some (.ref p), some (.tup [.int s, .int t]), some (.tup [.int u, .int v]), some (.int i), o4, some (.int s)]) (m2 := M) rfl (by simp [bindT]) (by simp [evIfs]) (by rw [evG, eltI hm rfl rfl rfl ha hx]; simp [R.bind, lim]),
      compN_it (x := .int t) (ρ1 := [some (.ref p), some (.tup [.int s, .int t]), some (.tup [.int u, .int v]), some (.int i), o4, some (.int t)]) (m1 := M) (acc2 := [.int x, .int y]) (ρ2 := [some (.ref p), some (.tup [.int s, .int t]), some (.tup [.int u, .int v]), some (.int i), o4, some (.int t)]) (m2 := M) rfl (by simp [bindT]) (by simp [evIfs]) (by rw [evG, eltI hm rfl rfl rfl hb hy]; simp [R.bind, lim]),
      compN_it (x := .int u) (ρ1 := [some (.ref p), some (.tup [.int s, .int t]), some (.tup [.int u, .int v]), some (.int i), o4, some (.int u)]) (m1 := M) (acc2 := [.int x, .int y, .int z]) (ρ2 := [some (.ref p), some (.tup [.int s, .int t]), some (.tup [.int u, .int v]), some (.int i), o4, some (.int u)]) (m2 := M) rfl (by simp [bindT]) (by simp [evIfs]) (by rw [evG, eltI hm rfl rfl rfl hc hz]; simp [R.bind, lim]),
      compN_it (x := .int v) (ρ1 := [some (.ref p), some (.tup [.int s, .int t]), some (.tup [.int u, .int v]), some (.int i), o4, some (.int v)]) (m1 := M) (acc2 := [.int x, .int y, .int z, .int w]) (ρ2 := [some (.ref p), some (.tup [.int s, .int t]), some (.tup [.int u, .int v]), some (.int i), o4, some (.int v)]) (m2 := M) rfl (by simp [bindT]) (by simp [evIfs]) (by rw [evG, eltI hm rfl rfl rfl hd hw]; simp [R.bind, lim]),
      compN_fin rfl]
  rw [evE, hG]
  simp [R.bind, D.new]
def hit (x y z w : Int) : Bool := x == y && (z == w && x != z)
theorem in01 {M : Mem} {q r1 r2 : Nat} {x y z w : Int} (hq : M[q]? = some (.lst [.int x, .int y, .int z, .int w])) (h1 : M[r1]? = some (.lst [.int 0, .int 0, .int 1, .int 1])) (h2 : M[r2]? = some (.lst [.int 1, .int 1, .int 0, .int 0]))
    (hx : x = 0 ∨ x = 1) (hy : y = 0 ∨ y = 1) (hz : z = 0 ∨ z = 1) (hw : w = 0 ∨ w = 1) : cmpop .In (.ref q) (.tup [.ref r1, .ref r2]) M = .ok (hit x y z w) M := by
  simp only [cmpop, getS, memW, toD, getL, hq, h1, h2, allD, Option.map_some]
  rcases hx with rfl | rfl <;> rcases hy with rfl | rfl <;> rcases hz with rfl | rfl <;> rcases hw with rfl | rfl <;> simp [hit, PyData.eqv, PyData.eqvAll]
theorem ispTurn {n p i s t u v : Nat} {M : Mem} {ts : List (List Int)} {a b c d : List Int} {x y z w : Int} {o4 o5 : Option W} (hm : M[p]? = some (.lst (ts.map tupI))) (ha : ts[s]? = some a) (hb : ts[t]? = some b) (hc : ts[u]? = some c) (hd : ts[v]? = some d) (hx : a[i]? = some x) (hy : b[i]? = some y) (hz : c[i]? = some z) (hw : d[i]? = some w)
    (gx : x = 0 ∨ x = 1) (gy : y = 0 ∨ y = 1) (gz : z = 0 ∨ z = 1) (gw : w = 0 ∨ w = 1) :
    evSs (Cn n) (.cons (.asg (.pt (.var 4)) (.comp (.gen (.var 5) [5] (.bin .Add (.var 1) (.var 2)) .nil (.elt (.idx (.idx (.var 0) (.var 5)) (.var 3)))))) (.cons (.ife (.cmp .In (.var 4) (.tup (.cons (.lst (.cons (.cst (.int 0)) (.cons (.cst (.int 0)) (.cons (.cst (.int 1)) (.cons (.cst (.int 1)) .nil))))) (.cons (.lst (.cons (.cst (.int 1)) (.cons (.cst (.int 1)) (.cons (.cst (.int 0)) (.cons (.cst (.int 0)) .nil))))) .nil)))) (.cons (.ret (.cst (.bl true))) .nil) .nil) .nil)) [some (.ref p), some (.tup [.int s, .int t]), some (.tup [.int u, .int v]), some (.int i), o4, o5] M = .ok (if hit x y z w then .rt (.bl true) else .nx [some (.ref p), some (.tup [.int s, .int t]), some (.tup [.int u, .int v]), some (.int i), some (.ref M.length), o5]) (M ++ [.lst [.int x, .int y, .int z, .int w], .lst [.int 0, .int 0, .int 1, .int 1], .lst [.int 1, .int 1, .int 0, .int 0]]) := by
  rw [seq_nx (asg_ok (someC hm ha hb hc hd hx hy hz hw))]
  have hT : evT (Cn n) (.cmp .In (.var 4) (.tup (.cons (.lst (.cons (.cst (.int 0)) (.cons (.cst (.int 0)) (.cons (.cst (.int 1)) (.cons (.cst (.int 1)) .nil))))) (.cons (.lst (.cons (.cst (.int 1)) (.cons (.cst (.int 1)) (.cons (.cst (.int 0)) (.cons (.cst (.int 0)) .nil))))) .nil)))) [some (.ref p), some (.tup [.int s, .int t]), some (.tup [.int u, .int v]), some (.int i), some (.ref M.length), o5] (M ++ [.lst [.int x, .int y, .int z, .int w]]) = .ok (hit x y z w) (M ++ [.lst [.int x, .int y, .int z, .int w], .lst [.int 0, .int 0, .int 1, .int 1], .lst [.int 1, .int 1, .int 0, .int 0]]) := by
    have := in01 (M := M ++ [.lst [.int x, .int y, .int z, .int w], .lst [.int 0, .int 0, .int 1, .int 1], .lst [.int 1, .int 1, .int 0, .int 0]]) (q := M.length) (r1 := M.length + 1) (r2 := M.length + 2) (by simp) (by simp) (by simp) gx gy gz gw
    simp [evT, evE, evEs, R.bind, D.new, lim]
    simpa using this
  simp only [List.set_cons_succ, List.set_cons_zero, evSs, evS, hT, R.bind]
  cases hit x y z w <;> simp [evSs, evS, evE, R.bind]
theorem grow {M ext : Mem} {p : Nat} {o : O} (h : M[p]? = some o) : (M ++ ext)[p]? = some o := by rw [List.getElem?_append_left (List.getElem?_eq_some_iff.mp h).1]; exact h
def bits (a : List Int) : Prop := ∀ x ∈ a, x = 0 ∨ x = 1
theorem ispLoop {n p L s t u v : Nat} {ts : List (List Int)} {a b c d : List Int} {o5 : Option W} (ha : ts[s]? = some a) (hb : ts[t]? = some b) (hc : ts[u]? = some c) (hd : ts[v]? = some d) (la : a.length = L) (lb : b.length = L) (lc : c.length = L) (ld : d.length = L) (ba : bits a) (bb : bits b) (bc : bits c) (bd : bits d) :
    ∀ (k i : Nat) (M : Mem) (o3 o4 : Option W), i + k = L → M[p]? = some (.lst (ts.map tupI)) → ∃ (ext : Mem) (o3' o4' : Option W), forN (Src.get (.rng 0 L)) (.var 3) (fun ρ m => evSs (Cn n) (.cons (.asg (.pt (.var 4)) (.comp (.gen (.var 5) [5] (.bin .Add (.var 1) (.var 2)) .nil (.elt (.idx (.idx (.var 0) (.var 5)) (.var 3)))))) (.cons (.ife (.cmp .In (.var 4) (.tup (.cons (.lst (.cons (.cst (.int 0)) (.cons (.cst (.int 0)) (.cons (.cst (.int 1)) (.cons (.cst (.int 1)) .nil))))) (.cons (.lst (.cons (.cst (.int 1)) (.cons (.cst (.int 1)) (.cons (.cst (.int 0)) (.cons (.cst (.int 0)) .nil))))) .nil)))) (.cons (.ret (.cst (.bl true))) .nil) .nil) .nil)) ρ m) k i [some (.ref p), some (.tup [.int s, .int t]), some (.tup [.int u, .int v]), o3, o4, o5] M
      = .ok (if parted (a.drop i) (b.drop i) (c.drop i) (d.drop i) then .rt (.bl true) else .nx [some (.ref p), some (.tup [.int s, .int t]), some (.tup [.int u, .int v]), o3', o4', o5]) (M ++ ext)
  | 0, i, M, o3, o4, hi, hm => by
    refine ⟨[], o3, o4, ?_⟩
    rw [forN_fin (get_rng_fin (by omega)), List.drop_eq_nil_of_le (by omega : a.length ≤ i)]
    simp [parted]
  | k + 1, i, M, o3, o4, hi, hm => by
    have h1 : i < a.length := by omega
    have h2 : i < b.length := by omega
    have h3 : i < c.length := by omega
    have h4 : i < d.length := by omega
    have ht := ispTurn (n := n) (o4 := o4) (o5 := o5) hm ha hb hc hd (List.getElem?_eq_getElem h1) (List.getElem?_eq_getElem h2) (List.getElem?_eq_getElem h3) (List.getElem?_eq_getElem h4) (ba _ (List.getElem_mem h1)) (bb _ (List.getElem_mem h2)) (bc _ (List.getElem_mem h3)) (bd _ (List.getElem_mem h4))
    have hp : parted (a.drop i) (b.drop i) (c.drop i) (d.drop i) = (hit a[i] b[i] c[i] d[i] || parted (a.drop (i + 1)) (b.drop (i + 1)) (c.drop (i + 1)) (d.drop (i + 1))) := by
      rw [List.drop_eq_getElem_cons h1, List.drop_eq_getElem_cons h2, List.drop_eq_getElem_cons h3, List.drop_eq_getElem_cons h4, parted]
      rfl
    cases hh : hit a[i] b[i] c[i] d[i] with
    | true =>
      rw [hh, if_pos rfl] at ht
      refine ⟨[.lst [.int a[i], .int b[i], .int c[i], .int d[i]], .lst [.int 0, .int 0, .int 1, .int 1], .lst [.int 1, .int 1, .int 0, .int 0]], o3, o4, ?_⟩
      rw [forN_rt (ρ1 := [some (.ref p), some (.tup [.int s, .int t]), some (.tup [.int u, .int v]), some (.int i), o4, o5]) (get_rng_it (by omega)) (by simp [bindT]) ht, hp, hh]
      simp
    | false =>
      rw [hh] at ht
      simp only [Bool.false_eq_true, if_false] at ht
      obtain ⟨ext, o3', o4', h⟩ := ispLoop (n := n) (p := p) (o5 := o5) ha hb hc hd la lb lc ld ba bb bc bd k (i + 1) _ (some (.int i)) (some (.ref M.length)) (by omega) (grow hm)
      refine ⟨[.lst [.int a[i], .int b[i], .int c[i], .int d[i]], .lst [.int 0, .int 0, .int 1, .int 1], .lst [.int 1, .int 1, .int 0, .int 0]] ++ ext, o3', o4', ?_⟩
      rw [forN_nx (ρ1 := [some (.ref p), some (.tup [.int s, .int t]), some (.tup [.int u, .int v]), some (.int i), o4, o5]) (get_rng_it (by omega)) (by simp [bindT]) ht, h, hp, hh, List.append_assoc]
      simp
theorem isp {n p L s t u v : Nat} {m : Mem} {ts : List (List Int)} {a b c d z : List Int} (hm : m[p]? = some (.lst (ts.map tupI))) (h0 : ts[0]? = some z) (lz : z.length = L) (ha : ts[s]? = some a) (hb : ts[t]? = some b) (hc : ts[u]? = some c) (hd : ts[v]? = some d) (la : a.length = L) (lb : b.length = L) (lc : c.length = L) (ld : d.length = L) (ba : bits a) (bb : bits b) (bc : bits c) (bd : bits d) (hL : L ≤ 100) :
    ∃ ext, D.runN prog fuel (n + 1) 5 [.ref p, .tup [.int s, .int t], .tup [.int u, .int v]] m = .ok (.bl (parted a b c d)) (m ++ ext) := by
  obtain ⟨ext, o3', o4', h⟩ := ispLoop (n := n) (p := p) (o5 := none) ha hb hc hd la lb lc ld ba bb bc bd L 0 m none none (by omega) hm
  refine ⟨ext, run_rt q5 rfl ?_⟩
  have hI : evI (Cn n) (.rng (.blt .len (.cons (.idx (.var 0) (.cst (.int 0))) .nil))) [some (.ref p), some (.tup [.int s, .int t]), some (.tup [.int u, .int v]), none, none, none] m = .ok (.rng 0 L) m := by
    refine rngI ?_ (by omega)
    have e0 : L2.atI (ts.map tupI) 0 = some (tupI z) := by
      have := atI_nat (xs := ts.map tupI) (i := 0)
      simp only [Int.ofNat_zero, List.getElem?_map, h0, Option.map_some] at this
      exact this
    simp [evE, evEs, R.bind, idxop, getS, getL, hm, e0, tupI, bltop, lz]
  have hf : evS (Cn n) (.for_ (.var 3) (.rng (.blt .len (.cons (.idx (.var 0) (.cst (.int 0))) .nil))) (.cons (.asg (.pt (.var 4)) (.comp (.gen (.var 5) [5] (.bin .Add (.var 1) (.var 2)) .nil (.elt (.idx (.idx (.var 0) (.var 5)) (.var 3)))))) (.cons (.ife (.cmp .In (.var 4) (.tup (.cons (.lst (.cons (.cst (.int 0)) (.cons (.cst (.int 0)) (.cons (.cst (.int 1)) (.cons (.cst (.int 1)) .nil))))) (.cons (.lst (.cons (.cst (.int 1)) (.cons (.cst (.int 1)) (.cons (.cst (.int 0)) (.cons (.cst (.int 0)) .nil))))) .nil)))) (.cons (.ret (.cst (.bl true))) .nil) .nil) .nil))) [some (.ref p), some (.tup [.int s, .int t]), some (.tup [.int u, .int v]), none, none, none] m = .ok (if parted a b c d then .rt (.bl true) else .nx [some (.ref p), some (.tup [.int s, .int t]), some (.tup [.int u, .int v]), o3', o4', none]) (m ++ ext) := by
    rw [evS, hI]
    simpa only [R.bind, Src.len, List.drop_zero] using h
  show evSs (Cn n) (.cons (.for_ _ _ (.cons (.asg (.pt (.var 4)) (.comp (.gen (.var 5) [5] (.bin .Add (.var 1) (.var 2)) .nil (.elt (.idx (.idx (.var 0) (.var 5)) (.var 3)))))) (.cons (.ife (.cmp .In (.var 4) (.tup (.cons (.lst (.cons (.cst (.int 0)) (.cons (.cst (.int 0)) (.cons (.cst (.int 1)) (.cons (.cst (.int 1)) .nil))))) (.cons (.lst (.cons (.cst (.int 1)) (.cons (.cst (.int 1)) (.cons (.cst (.int 0)) (.cons (.cst (.int 0)) .nil))))) .nil)))) (.cons (.ret (.cst (.bl true))) .nil) .nil) .nil))) (.cons (.ret (.cst (.bl false))) .nil)) [some (.ref p), some (.tup [.int s, .int t]), some (.tup [.int u, .int v]), none, none, none] _ = _
  cases hp : parted a b c d with
  | true =>
    rw [hp, if_pos rfl] at hf
    rw [seq_rt hf]
  | false =>
    rw [hp] at hf
    simp only [Bool.false_eq_true, if_false] at hf
    rw [seq_nx hf, seq_rt (ret_ok (w := .bl false) (m1 := m ++ ext) (by simp [evE]))]
structure Tg (ts : List (List Int)) (L : Nat) : Prop where
  ne : 0 < ts.length
  le : ts.length ≤ 4
  len : ∀ t ∈ ts, t.length = L
  bit : ∀ t ∈ ts, bits t
  hL : L ≤ 100
theorem Tg.get {ts : List (List Int)} {L s : Nat} (T : Tg ts L) (h : s < ts.length) : ∃ a, ts[s]? = some a ∧ a.length = L ∧ bits a := ⟨ts[s], List.getElem?_eq_getElem h, T.len _ (List.getElem_mem h), T.bit _ (List.getElem_mem h)⟩
def pairW (x : Nat × Nat) : W := .tup [.int x.1, .int x.2]
theorem innerT {n p q r L : Nat} {M : Mem} {ts : List (List Int)} {x y : Nat × Nat} {o2 o4 o7 o8 : Option W} (T : Tg ts L) (hp : M[p]? = some (.lst (ts.map tupI))) (hq : M[q]? = some (.lst (ts.map tupI))) (hx : x.1 < ts.length ∧ x.2 < ts.length) (hy : y.1 < ts.length ∧ y.2 < ts.length) :
    ∃ (ext : Mem) (o7' : Option W), evSs (Cn (n + 1)) (.cons (.asg (.pt (.var 7)) (.call 0 (.cons (.var 0) (.cons (.var 5) (.cons (.var 6) .nil))))) (.cons (.ife (.or (.not (.isI (.var 7) "bool")) (.cmp .NotEq (.var 7) (.call 5 (.cons (.var 1) (.cons (.var 5) (.cons (.var 6) .nil)))))) (.cons (.ret (.cst (.bl false))) .nil) .nil) .nil)) [some (.ref p), some (.ref q), o2, some (.ref r), o4, some (pairW x), some (pairW y), o7, o8] M = .ok (.nx [some (.ref p), some (.ref q), o2, some (.ref r), o4, some (pairW x), some (pairW y), o7', o8]) (M ++ ext) := by
  obtain ⟨a, ha, la, ba⟩ := T.get hx.1
  obtain ⟨b, hb, lb, bb⟩ := T.get hx.2
  obtain ⟨c, hc, lc, bc⟩ := T.get hy.1
  obtain ⟨d, hd, ld, bd⟩ := T.get hy.2
  obtain ⟨z, h0, lz, _⟩ := T.get T.ne
  obtain ⟨e1, h1⟩ := par (n := n) hp ha hb hc hd la lb lc ld T.hL
  obtain ⟨e2, h2⟩ := isp (n := n) (m := M ++ e1) (grow hq) h0 lz ha hb hc hd la lb lc ld ba bb bc bd T.hL
  have c1 : callP (D.runN prog fuel (n + 1) 0) [.ref p, pairW x, pairW y] M = .ok (.bl (parted a b c d)) (M ++ e1) := by rw [callP_imp rfl]; exact h1
  have c2 : callP (D.runN prog fuel (n + 1) 5) [.ref q, pairW x, pairW y] (M ++ e1) = .ok (.bl (parted a b c d)) (M ++ e1 ++ e2) := by rw [callP_imp rfl]; exact h2
  refine ⟨e1 ++ e2, some (.bl (parted a b c d)), ?_⟩
  rw [seq_nx (asg_ok (w := .bl (parted a b c d)) (m1 := M ++ e1) (by simp [evE, evEs, R.bind, c1]))]
  have hT : evT (Cn (n + 1)) (.or (.not (.isI (.var 7) "bool")) (.cmp .NotEq (.var 7) (.call 5 (.cons (.var 1) (.cons (.var 5) (.cons (.var 6) .nil)))))) [some (.ref p), some (.ref q), o2, some (.ref r), o4, some (pairW x), some (pairW y), some (.bl (parted a b c d)), o8] (M ++ e1) = .ok false (M ++ e1 ++ e2) := by
    simp [evT, evE, evEs, R.bind, isTy, D.truthy, c2, cmpop, eqW, toD, PyData.eqv]
  simp only [List.set_cons_succ, List.set_cons_zero, evSs, evS, hT, R.bind, Bool.false_eq_true, if_false, List.append_assoc]
theorem getLst {M : Mem} {r i : Nat} {xs : List W} {w : W} (h : M[r]? = some (.lst xs)) (hi : xs[i]? = some w) : Src.get (.lst r) M i = .it w := by simp only [Src.get, getL, h, hi]
theorem getLstE {M : Mem} {r i : Nat} {xs : List W} (h : M[r]? = some (.lst xs)) (hi : xs.length ≤ i) : Src.get (.lst r) M i = .fin := by simp only [Src.get, getL, h, List.getElem?_eq_none hi]
theorem innerL {n p q r L : Nat} {ts : List (List Int)} {x : Nat × Nat} {rs : List (Nat × Nat)} {o2 o4 o8 : Option W} (T : Tg ts L) (hx : x.1 < ts.length ∧ x.2 < ts.length) (hrs : ∀ y ∈ rs, y.1 < ts.length ∧ y.2 < ts.length) :
    ∀ (k i : Nat) (M : Mem) (o6 o7 : Option W), i + k = rs.length → M[p]? = some (.lst (ts.map tupI)) → M[q]? = some (.lst (ts.map tupI)) → M[r]? = some (.lst (rs.map pairW)) →
      ∃ (ext : Mem) (o6' o7' : Option W), forN (Src.get (.lst r)) (.var 6) (fun ρ m => evSs (Cn (n + 1)) (.cons (.asg (.pt (.var 7)) (.call 0 (.cons (.var 0) (.cons (.var 5) (.cons (.var 6) .nil))))) (.cons (.ife (.or (.not (.isI (.var 7) "bool")) (.cmp .NotEq (.var 7) (.call 5 (.cons (.var 1) (.cons (.var 5) (.cons (.var 6) .nil)))))) (.cons (.ret (.cst (.bl false))) .nil) .nil) .nil)) ρ m) k i [some (.ref p), some (.ref q), o2, some (.ref r), o4, some (pairW x), o6, o7, o8] M = .ok (.nx [some (.ref p), some (.ref q), o2, some (.ref r), o4, some (pairW x), o6', o7', o8]) (M ++ ext)
  | 0, i, M, o6, o7, hi, hp, hq, hr => ⟨[], o6, o7, by rw [forN_fin (getLstE hr (by simp; omega)), List.append_nil]⟩
  | k + 1, i, M, o6, o7, hi, hp, hq, hr => by
    have h1 : i < rs.length := by omega
    obtain ⟨e1, o7', ht⟩ := innerT (n := n) (r := r) (o2 := o2) (o4 := o4) (o7 := o7) (o8 := o8) T hp hq hx (hrs _ (List.getElem_mem h1))
    obtain ⟨e2, o6'', o7'', h⟩ := innerL (n := n) (o2 := o2) (o4 := o4) (o8 := o8) T hx hrs k (i + 1) (M ++ e1) (some (pairW rs[i])) o7' (by omega) (grow hp) (grow hq) (grow hr)
    refine ⟨e1 ++ e2, o6'', o7'', ?_⟩
    rw [forN_nx (x := pairW rs[i]) (ρ1 := [some (.ref p), some (.ref q), o2, some (.ref r), o4, some (pairW x), some (pairW rs[i]), o7, o8]) (getLst hr (by simp [h1])) (by simp [bindT]) ht, h, List.append_assoc]
theorem outerL {n p q r L : Nat} {ts : List (List Int)} {rs : List (Nat × Nat)} {o2 o4 o8 : Option W} (T : Tg ts L) (hrs : ∀ y ∈ rs, y.1 < ts.length ∧ y.2 < ts.length) :
    ∀ (k i : Nat) (M : Mem) (o5 o6 o7 : Option W), i + k = rs.length → M[p]? = some (.lst (ts.map tupI)) → M[q]? = some (.lst (ts.map tupI)) → M[r]? = some (.lst (rs.map pairW)) →
      ∃ (ext : Mem) (o5' o6' o7' : Option W), forN (Src.get (.lst r)) (.var 5) (fun ρ m => evSs (Cn (n + 1)) (.cons (.for_ (.var 6) (.var 3) (.cons (.asg (.pt (.var 7)) (.call 0 (.cons (.var 0) (.cons (.var 5) (.cons (.var 6) .nil))))) (.cons (.ife (.or (.not (.isI (.var 7) "bool")) (.cmp .NotEq (.var 7) (.call 5 (.cons (.var 1) (.cons (.var 5) (.cons (.var 6) .nil)))))) (.cons (.ret (.cst (.bl false))) .nil) .nil) .nil))) .nil) ρ m) k i [some (.ref p), some (.ref q), o2, some (.ref r), o4, o5, o6, o7, o8] M = .ok (.nx [some (.ref p), some (.ref q), o2, some (.ref r), o4, o5', o6', o7', o8]) (M ++ ext)
  | 0, i, M, o5, o6, o7, hi, hp, hq, hr => ⟨[], o5, o6, o7, by rw [forN_fin (getLstE hr (by simp; omega)), List.append_nil]⟩
  | k + 1, i, M, o5, o6, o7, hi, hp, hq, hr => by
    have h1 : i < rs.length := by omega
    obtain ⟨e1, o6', o7', ht⟩ := innerL (n := n) (p := p) (q := q) (r := r) (o2 := o2) (o4 := o4) (o8 := o8) T (hrs _ (List.getElem_mem h1)) hrs rs.length 0 M o6 o7 (by omega) hp hq hr
    obtain ⟨e2, o5'', o6'', o7'', h⟩ := outerL (n := n) (o2 := o2) (o4 := o4) (o8 := o8) T hrs k (i + 1) (M ++ e1) (some (pairW rs[i])) o6' o7' (by omega) (grow hp) (grow hq) (grow hr)
    refine ⟨e1 ++ e2, o5'', o6'', o7'', ?_⟩
    have hS : evSs (Cn (n + 1)) (.cons (.for_ (.var 6) (.var 3) (.cons (.asg (.pt (.var 7)) (.call 0 (.cons (.var 0) (.cons (.var 5) (.cons (.var 6) .nil))))) (.cons (.ife (.or (.not (.isI (.var 7) "bool")) (.cmp .NotEq (.var 7) (.call 5 (.cons (.var 1) (.cons (.var 5) (.cons (.var 6) .nil)))))) (.cons (.ret (.cst (.bl false))) .nil) .nil) .nil))) .nil) [some (.ref p), some (.ref q), o2, some (.ref r), o4, some (pairW rs[i]), o6, o7, o8] M = .ok (.nx [some (.ref p), some (.ref q), o2, some (.ref r), o4, some (pairW rs[i]), o6', o7', o8]) (M ++ e1) := by
      have hI : evI (Cn (n + 1)) (.var 3) [some (.ref p), some (.ref q), o2, some (.ref r), o4, some (pairW rs[i]), o6, o7, o8] M = .ok (.lst r) M := by
        simp only [evI, List.getElem?_cons_succ, List.getElem?_cons_zero, R.bind, srcOf, getL, hr]
      have hl : Src.len (.lst r) M = rs.length := by simp only [Src.len, getL, hr, List.length_map]
      rw [seq_nx (ρ1 := [some (.ref p), some (.ref q), o2, some (.ref r), o4, some (pairW rs[i]), o6', o7', o8]) (m1 := M ++ e1) (by rw [evS, hI]; simp only [R.bind, hl]; exact ht)]
      simp only [evSs]
    rw [forN_nx (x := pairW rs[i]) (ρ1 := [some (.ref p), some (.ref q), o2, some (.ref r), o4, some (pairW rs[i]), o6, o7, o8]) (getLst hr (by simp [h1])) (by simp [bindT]) hS, h, List.append_assoc]
def Kp (m M : Mem) : Prop := ∀ (j : Nat) (o : O), m[j]? = some o → M[j]? = some o
theorem rowC {n N p q st r s : Nat} {M : Mem} {o5 o6 o7 : Option W} (hN : N ≤ 4) (hs : s < N) (hst : M[st]? = some (.lst ((List.range N).map fun i => W.int (i : Nat)))) : ∀ (k i : Nat) (acc : List W) (o8 : Option W), i + k = N → acc.length + k ≤ 10 →
    ∃ (ys : List (Nat × Nat)) (o8' : Option W), compN (Src.get (.lst st)) (.var 8) (fun ρ m => evIfs (Cn n) .nil ρ m) (fun ρ m acc => evG (Cn n) (.elt (.tup (.cons (.var 4) (.cons (.var 8) .nil)))) ρ m acc) k i [some (.ref p), some (.ref q), some (.ref st), some (.ref r), some (.int s), o5, o6, o7, o8] M acc = .ok (acc ++ ys.map pairW, [some (.ref p), some (.ref q), some (.ref st), some (.ref r), some (.int s), o5, o6, o7, o8']) M ∧ ys.length = k ∧ ∀ y ∈ ys, y.1 < N ∧ y.2 < N
  | 0, i, acc, o8, hi, hacc => ⟨[], o8, by rw [compN_fin (getLstE hst (by simp; omega))]; simp, rfl, by simp⟩
  | k + 1, i, acc, o8, hi, hacc => by
    obtain ⟨ys, o8', h, hl, hy⟩ := rowC (n := n) (p := p) (q := q) (r := r) (o5 := o5) (o6 := o6) (o7 := o7) hN hs hst k (i + 1) (acc ++ [pairW (s, i)]) (some (.int i)) (by omega) (by simp; omega)
    refine ⟨(s, i) :: ys, o8', ?_, by simp [hl], fun y hy' => ?_⟩
    · have hlim : acc.length < lim := by simp [lim]; omega
      rw [compN_it (x := .int i) (ρ1 := [some (.ref p), some (.ref q), some (.ref st), some (.ref r), some (.int s), o5, o6, o7, some (.int i)]) (m1 := M) (acc2 := acc ++ [pairW (s, i)]) (ρ2 := [some (.ref p), some (.ref q), some (.ref st), some (.ref r), some (.int s), o5, o6, o7, some (.int i)]) (m2 := M) (getLst hst (by simp [show i < N by omega])) (by simp [bindT]) (by simp [evIfs]) (by simp [evG, evE, evEs, R.bind, hlim, pairW, show 2 ≤ lim by decide]), h]
      simp
    · rcases List.mem_cons.mp hy' with rfl | hy'
      · exact ⟨hs, by show i < N; omega⟩
      · exact hy y hy'
theorem buildL {n N p q st r : Nat} {o5 o6 o7 : Option W} (hN : N ≤ 4) (hne : st ≠ r) : ∀ (k i : Nat) (M : Mem) (rs : List (Nat × Nat)) (o4 o8 : Option W), i + k = N → M[st]? = some (.lst ((List.range N).map fun i => W.int (i : Nat))) → M[r]? = some (.lst (rs.map pairW)) → (∀ y ∈ rs, y.1 < N ∧ y.2 < N) → rs.length + 4 * k ≤ 100 →
    ∃ (M' : Mem) (rs' : List (Nat × Nat)) (o4' o8' : Option W), forN (Src.get (.lst st)) (.var 4) (fun ρ m => evSs (Cn n) (.cons (.expr (.meth (.var 3) "extend" (.cons (.comp (.gen (.var 8) [8] (.var 2) .nil (.elt (.tup (.cons (.var 4) (.cons (.var 8) .nil)))))) .nil))) .nil) ρ m) k i [some (.ref p), some (.ref q), some (.ref st), some (.ref r), o4, o5, o6, o7, o8] M = .ok (.nx [some (.ref p), some (.ref q), some (.ref st), some (.ref r), o4', o5, o6, o7, o8']) M' ∧ M'[r]? = some (.lst (rs'.map pairW)) ∧ (∀ y ∈ rs', y.1 < N ∧ y.2 < N) ∧ ∀ (j : Nat) (o : O), j ≠ r → M[j]? = some o → M'[j]? = some o
  | 0, i, M, rs, o4, o8, hi, hst, hr, hrs, hl => ⟨M, rs, o4, o8, by rw [forN_fin (getLstE hst (by simp; omega))], hr, hrs, fun j o _ h => h⟩
  | k + 1, i, M, rs, o4, o8, hi, hst, hr, hrs, hl => by
    have hs : i < N := by omega
    obtain ⟨ys, o8', h, hly, hy⟩ := rowC (n := n) (p := p) (q := q) (r := r) (o5 := o5) (o6 := o6) (o7 := o7) hN hs hst N 0 [] none (by omega) (by simp; omega)
    have hrl : r < M.length := (List.getElem?_eq_some_iff.mp hr).1
    have hI : evI (Cn n) (.var 2) [some (.ref p), some (.ref q), some (.ref st), some (.ref r), some (.int i), o5, o6, o7, o8] M = .ok (.lst st) M := by
      simp only [evI, List.getElem?_cons_succ, List.getElem?_cons_zero, R.bind, srcOf, getL, hst]
    have hlen : Src.len (.lst st) M = N := by simp only [Src.len, getL, hst, List.length_map, List.length_range]
    have hE : evE (Cn n) (.comp (.gen (.var 8) [8] (.var 2) .nil (.elt (.tup (.cons (.var 4) (.cons (.var 8) .nil)))))) [some (.ref p), some (.ref q), some (.ref st), some (.ref r), some (.int i), o5, o6, o7, o8] M = .ok (.ref M.length) (M ++ [.lst (ys.map pairW)]) := by
      rw [evE, evG, hI]
      simp only [R.bind, hlen, clr, List.set_cons_succ, List.set_cons_zero]
      rw [h]
      simp [D.new]
    have hr1 : (M ++ [O.lst (ys.map pairW)])[r]? = some (.lst (rs.map pairW)) := grow hr
    have hb1 : (M ++ [O.lst (ys.map pairW)])[M.length]? = some (.lst (ys.map pairW)) := by simp
    have hS : evSs (Cn n) (.cons (.expr (.meth (.var 3) "extend" (.cons (.comp (.gen (.var 8) [8] (.var 2) .nil (.elt (.tup (.cons (.var 4) (.cons (.var 8) .nil)))))) .nil))) .nil) [some (.ref p), some (.ref q), some (.ref st), some (.ref r), some (.int i), o5, o6, o7, o8] M = .ok (.nx [some (.ref p), some (.ref q), some (.ref st), some (.ref r), some (.int i), o5, o6, o7, o8]) ((M ++ [O.lst (ys.map pairW)]).set r (.lst ((rs ++ ys).map pairW))) := by
      have hlim : rs.length + ys.length ≤ lim := by simp [lim]; omega
      have hv : evE (Cn n) (.var 3) [some (.ref p), some (.ref q), some (.ref st), some (.ref r), some (.int i), o5, o6, o7, o8] M = .ok (.ref r) M := by simp [evE]
      have hes : evEs (Cn n) (.cons (.comp (.gen (.var 8) [8] (.var 2) .nil (.elt (.tup (.cons (.var 4) (.cons (.var 8) .nil)))))) .nil) [some (.ref p), some (.ref q), some (.ref st), some (.ref r), some (.int i), o5, o6, o7, o8] M = .ok [.ref M.length] (M ++ [O.lst (ys.map pairW)]) := by
        rw [evEs, hE]; simp [R.bind, evEs]
      have hm : evE (Cn n) (.meth (.var 3) "extend" (.cons (.comp (.gen (.var 8) [8] (.var 2) .nil (.elt (.tup (.cons (.var 4) (.cons (.var 8) .nil)))))) .nil)) [some (.ref p), some (.ref q), some (.ref st), some (.ref r), some (.int i), o5, o6, o7, o8] M = .ok .non ((M ++ [O.lst (ys.map pairW)]).set r (.lst ((rs ++ ys).map pairW))) := by
        rw [evE, hv]
        simp only [R.bind, kdOf, hr, hes, methop, hr1, hb1]
        simp [hlim]
      simp only [evSs, evS, hm, R.bind]
    obtain ⟨M', rs', o4', o8'', h1, h2, h3, h4⟩ := buildL (n := n) (p := p) (q := q) (o5 := o5) (o6 := o6) (o7 := o7) hN hne k (i + 1) ((M ++ [O.lst (ys.map pairW)]).set r (.lst ((rs ++ ys).map pairW))) (rs ++ ys) (some (.int i)) o8 (by omega) (by rw [List.getElem?_set_ne hne.symm]; exact grow hst) (by rw [List.getElem?_set_self (by simp; omega)]) (fun y hy' => (List.mem_append.mp hy').elim (hrs y) (hy y)) (by simp; omega)
    refine ⟨M', rs', o4', o8'', ?_, h2, h3, fun j o hj hm => h4 j o hj (by rw [List.getElem?_set_ne hj.symm]; exact grow hm)⟩
    rw [forN_nx (x := .int i) (ρ1 := [some (.ref p), some (.ref q), some (.ref st), some (.ref r), some (.int i), o5, o6, o7, o8]) (getLst hst (by simp [hs])) (by simp [bindT]) hS, h1]
theorem q6 : prog[6]? = some ⟨1, 9, b6⟩ := rfl
theorem allD_int {M : Mem} {n : Nat} : ∀ t : List Int, allD (toD (n + 1) M) (t.map W.int) = some (t.map PyData.int)
  | [] => rfl
  | x :: t => by
    have h0 : toD (n + 1) M (.int x) = some (.int x) := rfl
    simp only [List.map_cons, allD, h0, allD_int t]
theorem allD_tup {M : Mem} {n : Nat} : ∀ ts : List (List Int), allD (toD (n + 2) M) (ts.map tupI) = some (ts.map fun t => .tuple (t.map PyData.int))
  | [] => rfl
  | t :: ts => by
    have h1 : toD (n + 2) M (tupI t) = some (.tuple (t.map PyData.int)) := by
      show Option.map PyData.tuple (allD (toD (n + 1) M) (t.map W.int)) = _
      rw [allD_int]; rfl
    simp only [List.map_cons, allD, h1, allD_tup ts]
theorem eqvI : ∀ t : List Int, PyData.eqvAll (t.map PyData.int) (t.map PyData.int) = true
  | [] => rfl
  | x :: t => by simp [PyData.eqvAll, PyData.eqv, eqvI t]
theorem eqvT : ∀ ts : List (List Int), PyData.eqvAll (ts.map fun t => .tuple (t.map PyData.int)) (ts.map fun t => .tuple (t.map PyData.int)) = true
  | [] => rfl
  | t :: ts => by simp only [List.map_cons, PyData.eqvAll, PyData.eqv, eqvI, eqvT ts, Bool.and_self]
theorem eqTags {M : Mem} {p q : Nat} {ts : List (List Int)} (hp : M[p]? = some (.lst (ts.map tupI))) (hq : M[q]? = some (.lst (ts.map tupI))) : eqW M (.ref p) (.ref q) = .ok true M := by
  have h1 : ∀ {p : Nat}, M[p]? = some (.lst (ts.map tupI)) → toD 60 M (.ref p) = some (.list (ts.map fun t => .tuple (t.map PyData.int))) := fun h => by
    show (match getL M (.ref _) with | some xs => (allD (toD 59 M) xs).map PyData.list | none => none) = _
    simp only [getL, h]
    rw [allD_tup (n := 57)]
    rfl
  simp only [eqW, h1 hp, h1 hq, PyData.eqv, eqvT]
theorem right {n p L : Nat} {m : Mem} {ts : List (List Int)} (T : Tg ts L) (hm : m[p]? = some (.lst (ts.map tupI))) : ∃ M, D.runN prog fuel (n + 2) 6 [.ref p] m = .ok (.bl true) M ∧ Kp m M := by
  have hpl : p < m.length := (List.getElem?_eq_some_iff.mp hm).1
  generalize hM3 : m ++ [O.lst (ts.map tupI)] ++ [O.lst ((List.range ts.length).map fun i => W.int (i : Nat))] ++ [O.lst []] = M3
  have kp3 : Kp m M3 := fun j o h => by rw [← hM3]; exact grow (grow (grow h))
  have hk : M3[m.length]? = some (.lst (ts.map tupI)) := by rw [← hM3]; exact grow (grow (by simp))
  have hst : M3[m.length + 1]? = some (.lst ((List.range ts.length).map fun i => W.int (i : Nat))) := by rw [← hM3]; exact grow (by simp)
  have hr : M3[m.length + 2]? = some (.lst (([] : List (Nat × Nat)).map pairW)) := by rw [← hM3]; simp
  obtain ⟨M4, rs, o4, o8, f1, hr4, hrs, kp4⟩ := buildL (n := n + 1) (N := ts.length) (p := p) (q := m.length) (st := m.length + 1) (r := m.length + 2) (o5 := none) (o6 := none) (o7 := none) T.le (by omega) ts.length 0 M3 [] none none (by omega) hst hr (by simp) (by have := T.le; simp; omega)
  have hp4 : M4[p]? = some (.lst (ts.map tupI)) := kp4 p _ (by omega) (kp3 p _ hm)
  have hk4 : M4[m.length]? = some (.lst (ts.map tupI)) := kp4 _ _ (by omega) hk
  obtain ⟨ext, o5, o6, o7, f2⟩ := outerL (n := n) (p := p) (q := m.length) (r := m.length + 2) (o2 := some (.ref (m.length + 1))) (o4 := o4) (o8 := o8) T hrs rs.length 0 M4 none none none (by omega) hp4 hk4 hr4
  refine ⟨M4 ++ ext, run_rt q6 rfl ?_, fun j o h => grow (kp4 j o (fun e => ?_) (kp3 j o h))⟩
  · show evSs (Cn (n + 1)) b6 [some (.ref p), none, none, none, none, none, none, none, none] m = _
    have hlen : (ts.map tupI).length ≤ 1000000 := by have := T.le; simp; omega
    have hN : 0 ≤ ((ts.length : Nat) : Int) ∧ ((ts.length : Nat) : Int) ≤ 1000000 := by have := T.le; omega
    have e1 : evE (Cn (n + 1)) (.blt .list (.cons (.var 0) .nil)) [some (.ref p), none, none, none, none, none, none, none, none] m = .ok (.ref m.length) (m ++ [O.lst (ts.map tupI)]) := by
      simp [evE, evEs, R.bind, bltop, getS, getL, hm, D.new]
    have e2 : evE (Cn (n + 1)) (.lrng (.blt .len (.cons (.var 0) .nil))) [some (.ref p), some (.ref m.length), none, none, none, none, none, none, none] (m ++ [O.lst (ts.map tupI)]) = .ok (.ref (m.length + 1)) (m ++ [O.lst (ts.map tupI)] ++ [O.lst ((List.range ts.length).map fun i => W.int (i : Nat))]) := by
      have hl : evE (Cn (n + 1)) (.blt .len (.cons (.var 0) .nil)) [some (.ref p), some (.ref m.length), none, none, none, none, none, none, none] (m ++ [O.lst (ts.map tupI)]) = .ok (.int ts.length) (m ++ [O.lst (ts.map tupI)]) := by
        simp only [evE, evEs, R.bind, List.getElem?_cons_zero, bltop, getS, getL, grow (ext := [O.lst (ts.map tupI)]) hm, List.length_map]
      rw [evE, hl]
      simp only [R.bind]
      rw [if_pos hN]
      simp [D.new]
    have e3 : evE (Cn (n + 1)) (.lst .nil) [some (.ref p), some (.ref m.length), some (.ref (m.length + 1)), none, none, none, none, none, none] (m ++ [O.lst (ts.map tupI)] ++ [O.lst ((List.range ts.length).map fun i => W.int (i : Nat))]) = .ok (.ref (m.length + 2)) M3 := by
      rw [← hM3]
      simp [evE, evEs, R.bind, D.new]
    rw [b6, seq_nx (asg_ok e1)]
    simp only [List.set_cons_succ, List.set_cons_zero]
    rw [seq_nx (asg_ok e2)]
    simp only [List.set_cons_succ, List.set_cons_zero]
    rw [seq_nx (asg_ok e3)]
    simp only [List.set_cons_succ, List.set_cons_zero]
    have i1 : evI (Cn (n + 1)) (.var 2) [some (.ref p), some (.ref m.length), some (.ref (m.length + 1)), some (.ref (m.length + 2)), none, none, none, none, none] M3 = .ok (.lst (m.length + 1)) M3 := by
      simp only [evI, List.getElem?_cons_succ, List.getElem?_cons_zero, R.bind, srcOf, getL, hst]
    have l1 : Src.len (.lst (m.length + 1)) M3 = ts.length := by simp only [Src.len, getL, hst, List.length_map, List.length_range]
    have g1 : evS (Cn (n + 1)) (.for_ (.var 4) (.var 2) (.cons (.expr (.meth (.var 3) "extend" (.cons (.comp (.gen (.var 8) [8] (.var 2) .nil (.elt (.tup (.cons (.var 4) (.cons (.var 8) .nil)))))) .nil))) .nil)) [some (.ref p), some (.ref m.length), some (.ref (m.length + 1)), some (.ref (m.length + 2)), none, none, none, none, none] M3 = .ok (.nx [some (.ref p), some (.ref m.length), some (.ref (m.length + 1)), some (.ref (m.length + 2)), o4, none, none, none, o8]) M4 := by
      rw [evS, i1]; simp only [R.bind, l1]; exact f1
    rw [seq_nx g1]
    have i2 : evI (Cn (n + 1)) (.var 3) [some (.ref p), some (.ref m.length), some (.ref (m.length + 1)), some (.ref (m.length + 2)), o4, none, none, none, o8] M4 = .ok (.lst (m.length + 2)) M4 := by
      simp only [evI, List.getElem?_cons_succ, List.getElem?_cons_zero, R.bind, srcOf, getL, hr4]
    have l2 : Src.len (.lst (m.length + 2)) M4 = rs.length := by simp only [Src.len, getL, hr4, List.length_map]
    have g2 : evS (Cn (n + 1)) (.for_ (.var 5) (.var 3) (.cons (.for_ (.var 6) (.var 3) (.cons (.asg (.pt (.var 7)) (.call 0 (.cons (.var 0) (.cons (.var 5) (.cons (.var 6) .nil))))) (.cons (.ife (.or (.not (.isI (.var 7) "bool")) (.cmp .NotEq (.var 7) (.call 5 (.cons (.var 1) (.cons (.var 5) (.cons (.var 6) .nil)))))) (.cons (.ret (.cst (.bl false))) .nil) .nil) .nil))) .nil)) [some (.ref p), some (.ref m.length), some (.ref (m.length + 1)), some (.ref (m.length + 2)), o4, none, none, none, o8] M4 = .ok (.nx [some (.ref p), some (.ref m.length), some (.ref (m.length + 1)), some (.ref (m.length + 2)), o4, o5, o6, o7, o8]) (M4 ++ ext) := by
      rw [evS, i2]; simp only [R.bind, l2]; exact f2
    rw [seq_nx g2, seq_rt (ret_ok (w := .bl true) (m1 := M4 ++ ext) ?_)]
    simp only [evE, List.getElem?_cons_succ, List.getElem?_cons_zero, R.bind, cmpop, eqTags (grow (ext := ext) hp4) (grow (ext := ext) hk4)]
  · have : j < m.length := (List.getElem?_eq_some_iff.mp h).1
    omega
theorem p1 : prog[1]? = some ⟨2, 2, b1⟩ := rfl
theorem p2 : prog[2]? = some ⟨2, 3, b2⟩ := rfl
theorem p3 : prog[3]? = some ⟨2, 3, b3⟩ := rfl
theorem p4 : prog[4]? = some ⟨1, 4, b4⟩ := rfl
theorem p7 : prog[7]? = some ⟨1, 9, b7⟩ := rfl
theorem dig {n : Nat} {m : Mem} {p : Nat} {A B many : Int} (hm : m[p]? = some (.lst [.int A, .int B])) (h0 : 0 < many) (h1 : many < 1073741824) :
    ∃ A' B' d, D.runN prog fuel (n+1) 3 [.ref p, .int many] m = .ok (.int d) (m.set p (.lst [.int A', .int B'])) ∧ 0 ≤ d ∧ d < many := by
  have hp : p < m.length := (List.getElem?_eq_some_iff.mp hm).1
  have hs : ∀ o : O, (m.set p o)[p]? = some o := fun o => by simp [hp]
  by_cases hA : 0 < A
  · refine ⟨A / many, B, A % many, ?_, Int.emod_nonneg _ (by omega), Int.emod_lt_of_pos _ h0⟩
    simp [D.runN, p3, b3, startL, evSs, evS, evT, evE, evEs, evA, evAs, bindT, R.bind, cmpop, idxop, getS, getL, hm, L2.atI, L2.ixN, bltop, setop, outF, hA, h0, h1]
  · refine ⟨A, (B * 48271 + 12345) % 2147483647, _, ?_, Int.emod_nonneg (((B * 48271 + 12345) % 2147483647) * ((B * 48271 + 12345) % 2147483647) % 2147483629 / 7) (by omega : many ≠ 0), Int.emod_lt_of_pos _ h0⟩
    have g0 : 0 ≤ (B * 48271 + 12345) % 2147483647 := Int.emod_nonneg _ (by decide)
    have g1 : (B * 48271 + 12345) % 2147483647 < 2147483647 := Int.emod_lt_of_pos _ (by decide)
    have g2 : mulOk B 48271 = true := by simp [mulOk]
    have g3 : mulOk ((B * 48271 + 12345) % 2147483647) ((B * 48271 + 12345) % 2147483647) = true := by simp [mulOk]; omega
    simp [D.runN, p3, b3, startL, evSs, evS, evT, evE, evEs, evA, evAs, bindT, R.bind, cmpop, idxop, getS, getL, hm, hs, L2.atI, L2.ixN, bltop, setop, outF, hA, h0, h1, binop, g2, g3]
theorem cell {n : Nat} {m : Mem} {ns : List Int} {k : Int} (hk : 0 ≤ k) : ∃ c, D.runN prog fuel (n+1) 1 [.fz (ns.map .int), .int k] m = .ok (.int c) m := by
  by_cases h : k < ns.length
  · have hl : k.toNat < ns.length := by omega
    refine ⟨ns[k.toNat], ?_⟩
    simp [D.runN, p1, b1, startL, evSs, evS, evT, evE, evEs, R.bind, cmpop, idxop, getS, getL, L2.atI, L2.ixN, bltop, outF, h, hk, hl]
  · refine ⟨0, ?_⟩
    simp [D.runN, p1, b1, startL, evSs, evS, evT, evE, evEs, R.bind, cmpop, idxop, getS, getL, L2.atI, L2.ixN, bltop, outF, h]
theorem pot {n : Nat} {ns : List Int} {k : Int} (hk : 0 ≤ k) (hk2 : k < 100) : ∃ A B, D.runN prog fuel (n+2) 2 [.fz (ns.map .int), .int k] [] = .ok (.ref 0) [.lst [.int A, .int B]] := by
  obtain ⟨c, hc⟩ := cell (n := n) (m := []) (ns := ns) hk
  have hp : pureWs [.fz (ns.map .int), .int k] = true := by simp [pureWs, pureW, pureI]
  have hcp : callP (D.runN prog fuel (n + 1) 1) [.fz (ns.map .int), .int k] [] = .ok (.int c) [] := by simp [callP, hp, hc, pureW]
  have g : mulOk 977 k = true := by simp [mulOk]
  refine ⟨if (if c < 0 then -c else c) - 10 ^ 18 > 0 then (if c < 0 then -c else c) - 10 ^ 18 else 0, (if c < 0 then -c else c) % 2147483629 + 977 * k + 1, ?_⟩
  refine run_rt p2 rfl ?_
  show evSs _ b2 [some (.fz (ns.map .int)), some (.int k), none] [] = _
  rw [b2, seq_nx (asg_ok (w := .int c) (m1 := []) (by simp [evE, evEs, R.bind, hcp])), seq_rt (ret_ok (w := .ref 0) (m1 := _) ?_)]
  simp [evE, evEs, R.bind, bltop, binop, g, new, lim]
def tagsI : Nat → List (List Int)
  | 0 => [[]]
  | n + 1 => (tagsI n).map (0 :: ·) ++ (tagsI n).map (1 :: ·)
def isInts : List W → List Int → Bool
  | [], [] => true
  | .int i :: r, j :: t => i == j && isInts r t
  | _, _ => false
def areT : List W → List (List Int) → Bool
  | [], [] => true
  | .tup ys :: r, t :: ts => isInts ys t && areT r ts
  | _, _ => false
theorem isInts_ok : ∀ {ys : List W} {t : List Int}, isInts ys t = true → ys = t.map .int
  | [], [], _ => rfl
  | .int i :: r, j :: t, h => by
    simp only [isInts, Bool.and_eq_true, beq_iff_eq] at h
    rw [List.map_cons, ← isInts_ok h.2, h.1]
  | [], _ :: _, h => by simp [isInts] at h
  | .non :: _, [], h => by simp [isInts] at h
  | .int _ :: _, [], h => by simp [isInts] at h
  | .bl _ :: _, [], h => by simp [isInts] at h
  | .str _ :: _, [], h => by simp [isInts] at h
  | .tup _ :: _, [], h => by simp [isInts] at h
  | .fz _ :: _, [], h => by simp [isInts] at h
  | .ref _ :: _, [], h => by simp [isInts] at h
  | .non :: _, _ :: _, h => by simp [isInts] at h
  | .bl _ :: _, _ :: _, h => by simp [isInts] at h
  | .str _ :: _, _ :: _, h => by simp [isInts] at h
  | .tup _ :: _, _ :: _, h => by simp [isInts] at h
  | .fz _ :: _, _ :: _, h => by simp [isInts] at h
  | .ref _ :: _, _ :: _, h => by simp [isInts] at h
theorem areT_ok : ∀ {xs : List W} {ts : List (List Int)}, areT xs ts = true → xs = ts.map tupI
  | [], [], _ => rfl
  | .tup ys :: r, t :: ts, h => by
    simp only [areT, Bool.and_eq_true] at h
    rw [List.map_cons, ← areT_ok h.2, tupI, ← isInts_ok h.1]
  | [], _ :: _, h => by simp [areT] at h
  | .non :: _, ts, h => by cases ts <;> simp [areT] at h
  | .int _ :: _, ts, h => by cases ts <;> simp [areT] at h
  | .bl _ :: _, ts, h => by cases ts <;> simp [areT] at h
  | .str _ :: _, ts, h => by cases ts <;> simp [areT] at h
  | .tup _ :: _, [], h => by simp [areT] at h
  | .fz _ :: _, ts, h => by cases ts <;> simp [areT] at h
  | .ref _ :: _, ts, h => by cases ts <;> simp [areT] at h
def chkR (r : R W) (ts : List (List Int)) : Bool := match r with
  | .ok (.ref r) M => (match M[r]? with
    | some (.lst xs) => areT xs ts
    | _ => false)
  | _ => false
theorem chkR_ok {x : R W} {ts : List (List Int)} (h : chkR x ts = true) : ∃ r M, x = .ok (.ref r) M ∧ M[r]? = some (.lst (ts.map tupI)) := by
  unfold chkR at h
  split at h
  · rename_i r M
    split at h
    · rename_i xs e2
      exact ⟨r, M, rfl, by rw [e2, areT_ok h]⟩
    · cases h
  · cases h
def chkA (size : Nat) : Bool := chkR (D.runN prog fuel 39 4 [.int size] []) (tagsI size)
theorem ca1 : chkA 1 = true := by decide +kernel
theorem ca2 : chkA 2 = true := by decide +kernel
theorem ca3 : chkA 3 = true := by decide +kernel
theorem ca4 : chkA 4 = true := by decide +kernel
theorem allT {size : Nat} (h0 : 1 ≤ size) (h1 : size ≤ 4) : ∃ r M, D.runN prog fuel 39 4 [.int size] [] = .ok (.ref r) M ∧ M[r]? = some (.lst ((tagsI size).map tupI)) := by
  have hc : chkA size = true := by
    rcases (by omega : size = 1 ∨ size = 2 ∨ size = 3 ∨ size = 4) with rfl | rfl | rfl | rfl
    · exact ca1
    · exact ca2
    · exact ca3
    · exact ca4
  exact chkR_ok hc
theorem tagsI_ok : ∀ {n : Nat} {t : List Int}, t ∈ tagsI n → t.length = n ∧ bits t
  | 0, t, h => by simp [tagsI] at h; subst h; exact ⟨rfl, fun x hx => by simp at hx⟩
  | n + 1, t, h => by
    simp only [tagsI, List.mem_append, List.mem_map] at h
    rcases h with ⟨s, hs, rfl⟩ | ⟨s, hs, rfl⟩
    · obtain ⟨h1, h2⟩ := tagsI_ok hs
      exact ⟨by simp [h1], fun x hx => (List.mem_cons.mp hx).elim (fun e => .inl e) (h2 x)⟩
    · obtain ⟨h1, h2⟩ := tagsI_ok hs
      exact ⟨by simp [h1], fun x hx => (List.mem_cons.mp hx).elim (fun e => .inr e) (h2 x)⟩
theorem tagsI_len : ∀ n, (tagsI n).length = 2 ^ n
  | 0 => rfl
  | n + 1 => by simp [tagsI, tagsI_len n, Nat.pow_succ]; omega
theorem shInts {k : Nat} : ∀ t : List Int, shWs k (t.map W.int) = t.map .int
  | [] => rfl
  | x :: t => by simp [shWs, shW, shInts t]
theorem shTags {k : Nat} : ∀ ts : List (List Int), shWs k (ts.map tupI) = ts.map tupI
  | [] => rfl
  | t :: ts => by simp [shWs, shW, tupI, shInts, shTags ts]
end My
end
section
set_option Elab.async false
set_option linter.all false
set_option maxRecDepth 100000
set_option maxHeartbeats 4000000
namespace My
open PySem D
theorem draw {n p : Nat} {M : Mem} {ρ : D.Loc} {e : E} {A B N : Int} (hp : M[p]? = some (.lst [.int A, .int B])) (h2 : ρ[2]? = some (some (.ref p))) (he : evE (Cn (n + 1)) e ρ M = .ok (.int N) M) (h0 : 0 < N) (h1 : N < 1073741824) :
    ∃ A' B' d, evE (Cn (n + 1)) (.call 3 (.cons (.var 2) (.cons e .nil))) ρ M = .ok (.int d) (M.set p (.lst [.int A', .int B'])) ∧ 0 ≤ d ∧ d < N := by
  obtain ⟨A', B', d, hd, d0, d1⟩ := dig (n := n) hp h0 h1
  refine ⟨A', B', d, ?_, d0, d1⟩
  have hv : evE (Cn (n + 1)) (.var 2) ρ M = .ok (.ref p) M := by simp only [evE, h2]
  have hes : evEs (Cn (n + 1)) (.cons (.var 2) (.cons e .nil)) ρ M = .ok [.ref p, .int N] M := by
    rw [evEs, hv]; simp only [R.bind]; rw [evEs, he]; simp only [R.bind, evEs]
  rw [evE, hes]
  simp only [R.bind]
  rw [callP_imp rfl, hd]
theorem lenE {C : D.Cx} {j l : Nat} {M : Mem} {ρ : D.Loc} {xs : List W} (h : ρ[j]? = some (some (.ref l))) (hl : M[l]? = some (.lst xs)) : evE C (.blt .len (.cons (.var j) .nil)) ρ M = .ok (.int xs.length) M := by
  simp only [evE, evEs, h, R.bind, bltop, getS, getL, hl]
theorem eraseMap {α β : Type} (f : α → β) : ∀ (xs : List α) (k : Nat), (xs.map f).eraseIdx k = (xs.eraseIdx k).map f
  | [], _ => rfl
  | x :: xs, 0 => rfl
  | x :: xs, k + 1 => by simp [List.eraseIdx_cons_succ, eraseMap f xs k]
theorem seqI {d : Int} {n : Nat} (h0 : 0 ≤ d) (h1 : d < n) : seqIndex? d n = some d.toNat := by
  unfold seqIndex?
  simp only [show ¬ d < 0 by omega, if_false]
  simp [h0, h1]
theorem popE {n p l : Nat} {M : Mem} {ρ : D.Loc} {ls : List (List Int)} {A B : Int} (hpl : p ≠ l) (hp : M[p]? = some (.lst [.int A, .int B])) (hl : M[l]? = some (.lst (ls.map tupI))) (h2 : ρ[2]? = some (some (.ref p))) (h5 : ρ[5]? = some (some (.ref l))) (hne : 0 < ls.length) (hle : ls.length ≤ 16) :
    ∃ A' B' k t M', evE (Cn (n + 1)) (.meth (.var 5) "pop" (.cons (.call 3 (.cons (.var 2) (.cons (.blt .len (.cons (.var 5) .nil)) .nil))) .nil)) ρ M = .ok (tupI t) M' ∧ t ∈ ls ∧ M'[p]? = some (.lst [.int A', .int B']) ∧ M'[l]? = some (.lst ((ls.eraseIdx k).map tupI)) ∧ k < ls.length := by
  have hlen : evE (Cn (n + 1)) (.blt .len (.cons (.var 5) .nil)) ρ M = .ok (.int ls.length) M := by rw [lenE h5 hl, List.length_map]
  obtain ⟨A', B', d, hd, d0, d1⟩ := draw hp h2 hlen (by omega) (by omega)
  have hpl' : p < M.length := (List.getElem?_eq_some_iff.mp hp).1
  have hll : l < M.length := (List.getElem?_eq_some_iff.mp hl).1
  have hl1 : (M.set p (.lst [.int A', .int B']))[l]? = some (.lst (ls.map tupI)) := by rw [List.getElem?_set_ne hpl]; exact hl
  have hk : d.toNat < ls.length := by omega
  refine ⟨A', B', d.toNat, ls[d.toNat], (M.set p (.lst [.int A', .int B'])).set l (.lst ((ls.eraseIdx d.toNat).map tupI)), ?_, List.getElem_mem hk, ?_, ?_, hk⟩
  · have hv : evE (Cn (n + 1)) (.var 5) ρ M = .ok (.ref l) M := by simp only [evE, h5]
    have hes : evEs (Cn (n + 1)) (.cons (.call 3 (.cons (.var 2) (.cons (.blt .len (.cons (.var 5) .nil)) .nil))) .nil) ρ M = .ok [.int d] (M.set p (.lst [.int A', .int B'])) := by
      rw [evEs, hd]; simp only [R.bind, evEs]
    have hs : seqIndex? d (ls.map tupI).length = some d.toNat := seqI d0 (by rw [List.length_map]; exact d1)
    have hg : (ls.map tupI)[d.toNat]? = some (tupI ls[d.toNat]) := by simp [hk]
    have hb : -(2 ^ 63) ≤ d ∧ d < 2 ^ 63 := by omega
    rw [evE, hv]
    simp only [R.bind, kdOf, hl, hes, methop, hl1]
    simp only [show ¬ ("pop" = "append") by decide, show ¬ ("pop" = "clear") by decide, show ¬ ("pop" = "reverse") by decide, if_false, if_true, hs, hg, eraseMap]
    rw [if_pos hb]
  · rw [List.getElem?_set_ne hpl.symm, List.getElem?_set_self hpl']
  · rw [List.getElem?_set_self (by simpa using hll)]
theorem popsL {n p l many : Nat} {Pt : List Int → Prop} {o0 o1 o3 o4 o6 o7 : Option W} (hpl : p ≠ l) : ∀ (k i : Nat) (M : Mem) (ls : List (List Int)) (acc : List W) (A B : Int) (o8 : Option W), i + k = many → k ≤ ls.length → ls.length ≤ 16 → acc.length + k ≤ 10 → (∀ t ∈ ls, Pt t) → M[p]? = some (.lst [.int A, .int B]) → M[l]? = some (.lst (ls.map tupI)) →
    ∃ (ys ls' : List (List Int)) (A' B' : Int) (M' : Mem) (o8' : Option W), compN (Src.get (.rng 0 many)) (.var 8) (fun ρ m => evIfs (Cn (n + 1)) .nil ρ m) (fun ρ m acc => evG (Cn (n + 1)) (.elt (.meth (.var 5) "pop" (.cons (.call 3 (.cons (.var 2) (.cons (.blt .len (.cons (.var 5) .nil)) .nil))) .nil))) ρ m acc) k i [o0, o1, some (.ref p), o3, o4, some (.ref l), o6, o7, o8] M acc
      = .ok (acc ++ ys.map tupI, [o0, o1, some (.ref p), o3, o4, some (.ref l), o6, o7, o8']) M' ∧ ys.length = k ∧ (∀ t ∈ ys, Pt t) ∧ (∀ t ∈ ls', Pt t) ∧ ls'.length ≤ 16 ∧ M'[p]? = some (.lst [.int A', .int B']) ∧ M'[l]? = some (.lst (ls'.map tupI))
  | 0, i, M, ls, acc, A, B, o8, hi, hk, h16, hacc, hP, hp, hl => ⟨[], ls, A, B, M, o8, by rw [compN_fin (get_rng_fin (by omega))]; simp, rfl, by simp, hP, h16, hp, hl⟩
  | k + 1, i, M, ls, acc, A, B, o8, hi, hk, h16, hacc, hP, hp, hl => by
    obtain ⟨A1, B1, j, t, M1, he, ht, hp1, hl1, hj⟩ := popE (n := n) (ρ := [o0, o1, some (.ref p), o3, o4, some (.ref l), o6, o7, some (.int (0 + i))]) hpl hp hl rfl rfl (by omega) h16
    have hel : (ls.eraseIdx j).length = ls.length - 1 := by rw [List.length_eraseIdx, if_pos hj]
    obtain ⟨ys, ls', A', B', M', o8', h, e1, e2, e3, e4, e5, e6⟩ := popsL (n := n) (many := many) (Pt := Pt) (o0 := o0) (o1 := o1) (o3 := o3) (o4 := o4) (o6 := o6) (o7 := o7) hpl k (i + 1) M1 (ls.eraseIdx j) (acc ++ [tupI t]) A1 B1 (some (.int (0 + i))) (by omega) (by omega) (by omega) (by simp; omega) (fun x hx => hP x (List.mem_of_mem_eraseIdx hx)) hp1 hl1
    refine ⟨t :: ys, ls', A', B', M', o8', ?_, by simp [e1], fun x hx => (List.mem_cons.mp hx).elim (fun z => z ▸ hP t ht) (e2 x), e3, e4, e5, e6⟩
    have hlim : acc.length < lim := by simp [lim]; omega
    rw [compN_it (x := .int (0 + i)) (ρ1 := [o0, o1, some (.ref p), o3, o4, some (.ref l), o6, o7, some (.int (0 + i))]) (m1 := M) (acc2 := acc ++ [tupI t]) (ρ2 := [o0, o1, some (.ref p), o3, o4, some (.ref l), o6, o7, some (.int (0 + i))]) (m2 := M1) (get_rng_it (by omega)) (by simp [bindT]) (by simp [evIfs]) (by rw [evG, he]; simp [R.bind, hlim]), h]
    simp
theorem rightS {g L : Nat} {M : Mem} {ρ : D.Loc} {ys : List (List Int)} (T : Tg ys L) (hg : M[g]? = some (.lst (ys.map tupI))) (h6 : ρ[6]? = some (some (.ref g))) : ∃ M', evS (Cn 39) (.ife (.not (.call 6 (.cons (.var 6) .nil))) (.cons (.ret (.cst (.bl false))) .nil) .nil) ρ M = .ok (.nx ρ) M' ∧ Kp M M' := by
  obtain ⟨M', h, kp⟩ := right (n := 37) T hg
  refine ⟨M', ?_, kp⟩
  have hc : callP (D.runN prog fuel 39 6) [.ref g] M = .ok (.bl true) M' := by rw [callP_imp rfl]; exact h
  have hT : evT (Cn 39) (.not (.call 6 (.cons (.var 6) .nil))) ρ M = .ok false M' := by
    simp only [evT, evEs, evE, h6, R.bind, hc, D.truthy, Bool.not_true]
  simp only [evS, hT, R.bind, Bool.false_eq_true, if_false, evSs]
theorem neE {M : Mem} {l e : Nat} {ls : List (List Int)} (hl : M[l]? = some (.lst (ls.map tupI))) (he : M[e]? = some (.lst [])) : cmpop .NotEq (.ref l) (.ref e) M = .ok (!ls.isEmpty) M := by
  have h1 : toD 60 M (.ref l) = some (.list (ls.map fun t => .tuple (t.map PyData.int))) := by
    show (match getL M (.ref _) with | some xs => (allD (toD 59 M) xs).map PyData.list | none => none) = _
    simp only [getL, hl]
    rw [allD_tup (n := 57)]
    rfl
  have h2 : toD 60 M (.ref e) = some (.list []) := by
    show (match getL M (.ref _) with | some xs => (allD (toD 59 M) xs).map PyData.list | none => none) = _
    simp only [getL, he, allD, Option.map_some]
  simp only [cmpop, eqW, h1, h2, R.bind]
  cases ls <;> simp [PyData.eqv, PyData.eqvAll]
theorem chgS {p l g L : Nat} {M : Mem} {ρ : D.Loc} {ys ls : List (List Int)} {A B : Int} {at_ : Nat} (T : Tg ys L) (hls : ∀ t ∈ ls, t.length = L ∧ bits t) (h16 : ls.length ≤ 16) (hpl : p ≠ l) (hpg : p ≠ g) (hlg : l ≠ g) (hp : M[p]? = some (.lst [.int A, .int B])) (hl : M[l]? = some (.lst (ls.map tupI))) (hg : M[g]? = some (.lst (ys.map tupI))) (hat : at_ < ys.length)
    (h2 : ρ[2]? = some (some (.ref p))) (h5 : ρ[5]? = some (some (.ref l))) (h6 : ρ[6]? = some (some (.ref g))) (h7 : ρ[7]? = some (some (.int at_))) :
    ∃ M' ys', evS (Cn 39) (.ife (.cmp .NotEq (.var 5) (.lst .nil)) (.cons (.asg (.sub (.var 6) (.var 7)) (.idx (.var 5) (.call 3 (.cons (.var 2) (.cons (.blt .len (.cons (.var 5) .nil)) .nil))))) .nil) .nil) ρ M = .ok (.nx ρ) M' ∧ M'[g]? = some (.lst (ys'.map tupI)) ∧ Tg ys' L := by
  have hT : evT (Cn 39) (.cmp .NotEq (.var 5) (.lst .nil)) ρ M = .ok (!ls.isEmpty) (M ++ [.lst []]) := by
    have := neE (M := M ++ [.lst []]) (e := M.length) (grow hl) (by simp)
    simp only [evT, evE, h5, R.bind, evEs, List.length_nil, Nat.zero_le, if_true, D.new]
    exact this
  by_cases hn : ls = []
  · subst hn
    refine ⟨M ++ [.lst []], ys, ?_, grow hg, T⟩
    simp only [evS, hT, R.bind, List.isEmpty_nil, Bool.not_true, Bool.false_eq_true, if_false, evSs]
  · have hpos : 0 < ls.length := List.length_pos_iff.mpr hn
    have hpl' : p < M.length := (List.getElem?_eq_some_iff.mp hp).1
    have hgl' : g < M.length := (List.getElem?_eq_some_iff.mp hg).1
    have hlen : evE (Cn 39) (.blt .len (.cons (.var 5) .nil)) ρ (M ++ [.lst []]) = .ok (.int ls.length) (M ++ [.lst []]) := by rw [lenE h5 (grow hl), List.length_map]
    obtain ⟨A', B', d, hd, d0, d1⟩ := draw (n := 38) (grow (ext := [.lst []]) hp) h2 hlen (by omega) (by omega)
    obtain ⟨dn, rfl⟩ : ∃ dn : Nat, d = dn := ⟨d.toNat, by omega⟩
    have hdn : dn < ls.length := by omega
    generalize hM9 : (M ++ [O.lst []]).set p (.lst [.int A', .int B']) = M9 at hd
    have hl9 : M9[l]? = some (.lst (ls.map tupI)) := by rw [← hM9, List.getElem?_set_ne hpl]; exact grow hl
    have hg9 : M9[g]? = some (.lst (ys.map tupI)) := by rw [← hM9, List.getElem?_set_ne hpg]; exact grow hg
    have hgl9 : g < M9.length := (List.getElem?_eq_some_iff.mp hg9).1
    have hv : evE (Cn 39) (.idx (.var 5) (.call 3 (.cons (.var 2) (.cons (.blt .len (.cons (.var 5) .nil)) .nil)))) ρ (M ++ [.lst []]) = .ok (tupI ls[dn]) M9 := by
      have h5' : evE (Cn 39) (.var 5) ρ (M ++ [.lst []]) = .ok (.ref l) (M ++ [.lst []]) := by simp only [evE, h5]
      rw [evE, h5']
      simp only [R.bind]
      rw [hd]
      simp only [idxop, getS, getL, hl9, atI_nat, List.getElem?_map, List.getElem?_eq_getElem hdn, Option.map_some]
    have hset : (ys.map tupI).set at_ (tupI ls[dn]) = (ys.set at_ ls[dn]).map tupI := by rw [List.map_set]
    have hix : L2.ixN (ys.map tupI).length (at_ : Int) = some at_ := by
      unfold L2.ixN
      rw [if_pos (by omega), if_pos (by rw [List.length_map]; omega)]
      simp
    refine ⟨M9.set g (.lst ((ys.set at_ ls[dn]).map tupI)), ys.set at_ ls[dn], ?_, by rw [List.getElem?_set_self hgl9], ⟨by rw [List.length_set]; exact T.ne, by rw [List.length_set]; exact T.le, fun t ht => ?_, fun t ht => ?_, T.hL⟩⟩
    · have hA : evA (Cn 39) (.sub (.var 6) (.var 7)) (tupI ls[dn]) ρ M9 = .ok ρ (M9.set g (.lst ((ys.set at_ ls[dn]).map tupI))) := by
        simp only [evA, evE, h6, h7, R.bind, setop, hg9, hix, hset]
      have hS : evS (Cn 39) (.asg (.sub (.var 6) (.var 7)) (.idx (.var 5) (.call 3 (.cons (.var 2) (.cons (.blt .len (.cons (.var 5) .nil)) .nil))))) ρ (M ++ [.lst []]) = .ok (.nx ρ) (M9.set g (.lst ((ys.set at_ ls[dn]).map tupI))) := by
        rw [evS, hv]; simp only [R.bind, hA]
      have hne : ls.isEmpty = false := by cases ls <;> simp at hn ⊢
      rw [evS, hT]
      simp only [R.bind, hne, Bool.not_false, if_true]
      rw [seq_nx hS]
      simp only [evSs]
    · rcases List.mem_or_eq_of_mem_set ht with z | z
      · exact T.len t z
      · rw [z]; exact (hls _ (List.getElem_mem hdn)).1
    · rcases List.mem_or_eq_of_mem_set ht with z | z
      · exact T.bit t z
      · rw [z]; exact (hls _ (List.getElem_mem hdn)).2
end My
end
section
set_option Elab.async false
set_option linter.all false
set_option maxRecDepth 100000
set_option maxHeartbeats 4000000
namespace My
open PySem D
theorem evCall {n f : Nat} {es : Es} {ρ : D.Loc} {m m1 : Mem} {ws : List W} (h : evEs (Cn n) es ρ m = .ok ws m1) : evE (Cn n) (.call f es) ρ m = callP (D.runN prog fuel n f) ws m1 := by
  rw [evE, h]; rfl
abbrev bodyL : Ss := match b7 with | .cons (.for_ _ _ b) _ => b | _ => .nil
theorem turn {ns : List Int} {k : Nat} {m : Mem} {o2 o3 o4 o5 o6 o7 o8 : Option W} (hk : k < 100) : ∃ m' q2 q3 q4 q5 q6 q7 q8, evSs (Cn 39) bodyL [some (.fz (ns.map .int)), some (.int k), o2, o3, o4, o5, o6, o7, o8] m = .ok (.nx [some (.fz (ns.map .int)), some (.int k), q2, q3, q4, q5, q6, q7, q8]) m' := by
  obtain ⟨A, B, hpot⟩ := pot (n := 37) (ns := ns) (k := k) (by omega) (by omega)
  have hpu : pureWs [.fz (ns.map .int), .int k] = true := by simp [pureWs, pureW, pureI]
  generalize hp : m.length = p
  have c2 : callP (D.runN prog fuel 39 2) [.fz (ns.map .int), .int k] m = .ok (.ref p) (m ++ [.lst [.int A, .int B]]) := by
    rw [callP_ref hpu hpot rfl, ← hp]
    rfl
  generalize hM0 : m ++ [O.lst [.int A, .int B]] = M0 at c2
  have hm0 : M0[p]? = some (.lst [.int A, .int B]) := by rw [← hM0, ← hp]; simp
  obtain ⟨A1, B1, d, hd, d0, d1⟩ := draw (n := 38) (ρ := [some (.fz (ns.map .int)), some (.int k), some (.ref p), o3, o4, o5, o6, o7, o8]) (e := .cst (.int 3)) (N := 3) hm0 rfl (by simp only [evE]) (by decide) (by decide)
  generalize hM1 : M0.set p (.lst [.int A1, .int B1]) = M1 at hd
  have hm1 : M1[p]? = some (.lst [.int A1, .int B1]) := by rw [← hM1, List.getElem?_set_self (List.getElem?_eq_some_iff.mp hm0).1]
  obtain ⟨many, hmany⟩ : ∃ many : Nat, 2 + d = many := ⟨(2 + d).toNat, by omega⟩
  have e3 : evE (Cn 39) (.bin .Add (.cst (.int 2)) (.call 3 (.cons (.var 2) (.cons (.cst (.int 3)) .nil)))) [some (.fz (ns.map .int)), some (.int k), some (.ref p), o3, o4, o5, o6, o7, o8] M0 = .ok (.int many) M1 := by
    rw [evE, evE]; simp only [R.bind]; rw [hd]; simp only [binop, hmany]
  obtain ⟨least, hleast⟩ : ∃ least : Nat, (1 : Int) + (if decide ((2 : Int) < many) = true then 1 else 0) = least := ⟨if decide ((2 : Int) < many) = true then 2 else 1, by split <;> simp⟩
  have hle1 : 1 ≤ least ∧ least ≤ 2 ∧ (2 < many → least = 2) := by
    by_cases h : (2 : Int) < many
    · simp [h] at hleast; omega
    · simp [h] at hleast; omega
  have e4 : evE (Cn 39) (.bin .Add (.cst (.int 1)) (.blt .int (.cons (.cmp .Gt (.var 3) (.cst (.int 2))) .nil))) [some (.fz (ns.map .int)), some (.int k), some (.ref p), some (.int many), o4, o5, o6, o7, o8] M1 = .ok (.int least) M1 := by
    simp only [evE, evEs, R.bind, List.getElem?_cons_succ, List.getElem?_cons_zero, cmpop, bltop, binop, hleast]
  obtain ⟨A2, B2, d2, hd2, d20, d21⟩ := draw (n := 38) (ρ := [some (.fz (ns.map .int)), some (.int k), some (.ref p), some (.int many), some (.int least), o5, o6, o7, o8]) (e := .bin .Sub (.cst (.int 5)) (.var 4)) (N := 5 - least) hm1 rfl (by simp only [evE, R.bind, List.getElem?_cons_succ, List.getElem?_cons_zero, binop]) (by omega) (by omega)
  generalize hM2 : M1.set p (.lst [.int A2, .int B2]) = M2 at hd2
  have hm2 : M2[p]? = some (.lst [.int A2, .int B2]) := by rw [← hM2, List.getElem?_set_self (List.getElem?_eq_some_iff.mp hm1).1]
  obtain ⟨size, hsize⟩ : ∃ size : Nat, (least : Int) + d2 = size := ⟨((least : Int) + d2).toNat, by omega⟩
  obtain ⟨r, Ma, ha, hra⟩ := allT (size := size) (by omega) (by omega)
  have c4 : callP (D.runN prog fuel 39 4) [.int size] M2 = .ok (.ref (M2.length + r)) (M2 ++ Ma.map (shO M2.length)) := by
    rw [callP_ref (by simp [pureWs, pureW]) ha rfl]; rfl
  generalize hl : M2.length + r = l at c4
  have hpl : p ≠ l := by
    have := (List.getElem?_eq_some_iff.mp hm2).1
    omega
  have hl3 : (M2 ++ Ma.map (shO M2.length))[l]? = some (.lst ((tagsI size).map tupI)) := by
    rw [← hl, List.getElem?_append_right (by omega), Nat.add_sub_cancel_left, List.getElem?_map, hra]
    simp only [Option.map_some, shO, shTags]
  generalize hM3 : M2 ++ Ma.map (shO M2.length) = M3 at c4 hl3
  have hm3 : M3[p]? = some (.lst [.int A2, .int B2]) := by rw [← hM3]; exact grow hm2
  have e5 : evE (Cn 39) (.call 4 (.cons (.bin .Add (.var 4) (.call 3 (.cons (.var 2) (.cons (.bin .Sub (.cst (.int 5)) (.var 4)) .nil)))) .nil)) [some (.fz (ns.map .int)), some (.int k), some (.ref p), some (.int many), some (.int least), o5, o6, o7, o8] M1 = .ok (.ref l) M3 := by
    have ea : evE (Cn 39) (.bin .Add (.var 4) (.call 3 (.cons (.var 2) (.cons (.bin .Sub (.cst (.int 5)) (.var 4)) .nil)))) [some (.fz (ns.map .int)), some (.int k), some (.ref p), some (.int many), some (.int least), o5, o6, o7, o8] M1 = .ok (.int size) M2 := by
      have ev : evE (Cn 39) (.var 4) [some (.fz (ns.map .int)), some (.int k), some (.ref p), some (.int many), some (.int least), o5, o6, o7, o8] M1 = .ok (.int least) M1 := by simp only [evE, List.getElem?_cons_succ, List.getElem?_cons_zero]
      rw [evE, ev]; simp only [R.bind]; rw [hd2]; simp only [binop, hsize]
    have es : evEs (Cn 39) (.cons (.bin .Add (.var 4) (.call 3 (.cons (.var 2) (.cons (.bin .Sub (.cst (.int 5)) (.var 4)) .nil)))) .nil) [some (.fz (ns.map .int)), some (.int k), some (.ref p), some (.int many), some (.int least), o5, o6, o7, o8] M1 = .ok [.int size] M2 := by
      rw [evEs, ea]; simp only [R.bind, evEs]
    rw [evCall es, c4]
  have hcount : many ≤ (tagsI size).length := by
    rw [tagsI_len]
    rcases (by omega : size = 1 ∨ size = 2 ∨ size = 3 ∨ size = 4) with rfl | rfl | rfl | rfl <;> simp <;> omega
  have h16 : (tagsI size).length ≤ 16 := by
    rw [tagsI_len]
    rcases (by omega : size = 1 ∨ size = 2 ∨ size = 3 ∨ size = 4) with rfl | rfl | rfl | rfl <;> simp
  obtain ⟨ys, ls, A3, B3, M4, o8', f, y1, y2, y3, y4, hm4, hl4⟩ := popsL (n := 38) (p := p) (l := l) (many := many) (Pt := fun t => t.length = size ∧ bits t) (o0 := some (.fz (ns.map .int))) (o1 := some (.int k)) (o3 := some (.int many)) (o4 := some (.int least)) (o6 := o6) (o7 := o7) hpl many 0 M3 (tagsI size) [] A2 B2 none (by omega) hcount h16 (by simp; omega) (fun t ht => tagsI_ok ht) hm3 hl3
  have e6 : evE (Cn 39) (.comp (.gen (.var 8) [8] (.rng (.var 3)) .nil (.elt (.meth (.var 5) "pop" (.cons (.call 3 (.cons (.var 2) (.cons (.blt .len (.cons (.var 5) .nil)) .nil))) .nil))))) [some (.fz (ns.map .int)), some (.int k), some (.ref p), some (.int many), some (.int least), some (.ref l), o6, o7, o8] M3 = .ok (.ref M4.length) (M4 ++ [.lst (ys.map tupI)]) := by
    have hI : evI (Cn 39) (.rng (.var 3)) [some (.fz (ns.map .int)), some (.int k), some (.ref p), some (.int many), some (.int least), some (.ref l), o6, o7, o8] M3 = .ok (.rng 0 many) M3 := rngI (by simp only [evE, List.getElem?_cons_succ, List.getElem?_cons_zero]) (by omega)
    have hG : evG (Cn 39) (.gen (.var 8) [8] (.rng (.var 3)) .nil (.elt (.meth (.var 5) "pop" (.cons (.call 3 (.cons (.var 2) (.cons (.blt .len (.cons (.var 5) .nil)) .nil))) .nil)))) [some (.fz (ns.map .int)), some (.int k), some (.ref p), some (.int many), some (.int least), some (.ref l), o6, o7, o8] M3 [] = .ok (ys.map tupI, [some (.fz (ns.map .int)), some (.int k), some (.ref p), some (.int many), some (.int least), some (.ref l), o6, o7, o8']) M4 := by
      rw [evG, hI]
      simp only [R.bind, Src.len, clr, List.set_cons_succ, List.set_cons_zero]
      simpa using f
    rw [evE, hG]; simp only [R.bind, D.new]
  have T : Tg ys size := ⟨by omega, by omega, fun t ht => (y2 t ht).1, fun t ht => (y2 t ht).2, by omega⟩
  have hg5 : (M4 ++ [O.lst (ys.map tupI)])[M4.length]? = some (.lst (ys.map tupI)) := by simp
  have hp4 : p < M4.length := (List.getElem?_eq_some_iff.mp hm4).1
  have hl4' : l < M4.length := (List.getElem?_eq_some_iff.mp hl4).1
  obtain ⟨M6, s6, kp6⟩ := rightS (ρ := [some (.fz (ns.map .int)), some (.int k), some (.ref p), some (.int many), some (.int least), some (.ref l), some (.ref M4.length), o7, o8]) T hg5 rfl
  have hm6 := kp6 _ _ (grow (ext := [O.lst (ys.map tupI)]) hm4)
  have hl6 := kp6 _ _ (grow (ext := [O.lst (ys.map tupI)]) hl4)
  have hg6 := kp6 _ _ hg5
  obtain ⟨A7, B7, d7, hd7, d70, d71⟩ := draw (n := 38) (ρ := [some (.fz (ns.map .int)), some (.int k), some (.ref p), some (.int many), some (.int least), some (.ref l), some (.ref M4.length), o7, o8]) (e := .var 3) (N := many) hm6 rfl (by simp only [evE, List.getElem?_cons_succ, List.getElem?_cons_zero]) (by omega) (by omega)
  obtain ⟨at_, rfl⟩ : ∃ at_ : Nat, d7 = at_ := ⟨d7.toNat, by omega⟩
  generalize hM7 : M6.set p (.lst [.int A7, .int B7]) = M7 at hd7
  have hm7 : M7[p]? = some (.lst [.int A7, .int B7]) := by rw [← hM7, List.getElem?_set_self (List.getElem?_eq_some_iff.mp hm6).1]
  have hl7 : M7[l]? = some (.lst (ls.map tupI)) := by rw [← hM7, List.getElem?_set_ne hpl]; exact hl6
  have hg7 : M7[M4.length]? = some (.lst (ys.map tupI)) := by rw [← hM7, List.getElem?_set_ne (by omega)]; exact hg6
  obtain ⟨M8, ys', s8, hg8, T8⟩ := chgS (ρ := [some (.fz (ns.map .int)), some (.int k), some (.ref p), some (.int many), some (.int least), some (.ref l), some (.ref M4.length), some (.int at_), o8]) (p := p) (l := l) (g := M4.length) (at_ := at_) T y3 y4 hpl (by omega) (by omega) hm7 hl7 hg7 (by omega) rfl rfl rfl rfl
  obtain ⟨M9, s9, kp9⟩ := rightS (ρ := [some (.fz (ns.map .int)), some (.int k), some (.ref p), some (.int many), some (.int least), some (.ref l), some (.ref M4.length), some (.int at_), o8]) T8 hg8 rfl
  refine ⟨M9, some (.ref p), some (.int many), some (.int least), some (.ref l), some (.ref M4.length), some (.int at_), o8, ?_⟩
  rw [bodyL, b7]
  dsimp only
  rw [seq_nx (asg_ok (w := .ref p) (m1 := M0) (by simp [evE, evEs, R.bind, c2]))]
  simp only [List.set_cons_succ, List.set_cons_zero]
  rw [seq_nx (asg_ok e3)]
  simp only [List.set_cons_succ, List.set_cons_zero]
  rw [seq_nx (asg_ok e4)]
  simp only [List.set_cons_succ, List.set_cons_zero]
  rw [seq_nx (asg_ok e5)]
  simp only [List.set_cons_succ, List.set_cons_zero]
  rw [seq_nx (asg_ok e6)]
  simp only [List.set_cons_succ, List.set_cons_zero]
  rw [seq_nx s6, seq_nx (asg_ok hd7)]
  simp only [List.set_cons_succ, List.set_cons_zero]
  rw [seq_nx s8, seq_nx s9]
  simp only [evSs]
theorem loop {ns : List Int} {size : Nat} (hs : size ≤ 60) : ∀ (k i : Nat) (m : Mem) (o1 o2 o3 o4 o5 o6 o7 o8 : Option W), i + k = size → ∃ m' q1 q2 q3 q4 q5 q6 q7 q8,
    forN (Src.get (.rng 0 size)) (.var 1) (fun ρ m => evSs (Cn 39) bodyL ρ m) k i [some (.fz (ns.map .int)), o1, o2, o3, o4, o5, o6, o7, o8] m = .ok (.nx [some (.fz (ns.map .int)), q1, q2, q3, q4, q5, q6, q7, q8]) m'
  | 0, i, m, o1, o2, o3, o4, o5, o6, o7, o8, hi => ⟨m, o1, o2, o3, o4, o5, o6, o7, o8, forN_fin (get_rng_fin (by omega))⟩
  | k + 1, i, m, o1, o2, o3, o4, o5, o6, o7, o8, hi => by
    obtain ⟨m1, p2, p3, p4, p5, p6, p7, p8, h⟩ := turn (ns := ns) (k := i) (m := m) (o2 := o2) (o3 := o3) (o4 := o4) (o5 := o5) (o6 := o6) (o7 := o7) (o8 := o8) (by omega)
    obtain ⟨m', q1, q2, q3, q4, q5, q6, q7, q8, h'⟩ := loop hs k (i + 1) m1 (some (.int i)) p2 p3 p4 p5 p6 p7 p8 (by omega)
    refine ⟨m', q1, q2, q3, q4, q5, q6, q7, q8, ?_⟩
    rw [forN_nx (ρ1 := [some (.fz (ns.map .int)), some (.int i), o2, o3, o4, o5, o6, o7, o8]) (get_rng_it (by omega)) (by simp [bindT]) h, h']
theorem law_holds : ∀ ns : List Int, ns.length ≤ 63 → ∃ m', D.runN prog fuel 40 7 [.fz (ns.map .int)] [] = .ok (.bl true) m' := by
  intro ns hn
  obtain ⟨size, hsz⟩ : ∃ size : Nat, (if (if (6 : Int) < ns.length then (6 : Int) else ns.length) > 1 then (if (6 : Int) < ns.length then (6 : Int) else ns.length) else 1) = (size : Int) := ⟨(if (if (6 : Int) < ns.length then (6 : Int) else ns.length) > 1 then (if (6 : Int) < ns.length then (6 : Int) else ns.length) else 1).toNat, by split <;> (try split) <;> omega⟩
  have hs : size ≤ 60 := by
    have : (size : Int) ≤ 60 := by rw [← hsz]; split <;> (try split) <;> omega
    omega
  obtain ⟨m', q1, q2, q3, q4, q5, q6, q7, q8, h⟩ := loop (ns := ns) hs size 0 [] none none none none none none none none (by omega)
  refine ⟨m', run_rt p7 rfl ?_⟩
  have hI : evI (Cn 39) (.rng (.blt .max (.cons (.cst (.int 1)) (.cons (.blt .min (.cons (.blt .len (.cons (.var 0) .nil)) (.cons (.cst (.int 6)) .nil))) .nil)))) [some (.fz (ns.map .int)), none, none, none, none, none, none, none, none] [] = .ok (.rng 0 size) [] := by
    refine rngI ?_ (by omega)
    simp only [evE, evEs, R.bind, bltop, getS, getL, List.getElem?_cons_zero, List.length_map]
    rw [hsz]
  have hf : evS (Cn 39) (.for_ (.var 1) (.rng (.blt .max (.cons (.cst (.int 1)) (.cons (.blt .min (.cons (.blt .len (.cons (.var 0) .nil)) (.cons (.cst (.int 6)) .nil))) .nil)))) bodyL) [some (.fz (ns.map .int)), none, none, none, none, none, none, none, none] [] = .ok (.nx [some (.fz (ns.map .int)), q1, q2, q3, q4, q5, q6, q7, q8]) m' := by
    rw [evS, hI]
    simpa only [R.bind, Src.len] using h
  show evSs (Cn 39) (.cons (.for_ _ _ bodyL) (.cons (.ret (.cst (.bl true))) .nil)) [some (.fz (ns.map .int)), none, none, none, none, none, none, none, none] _ = _
  rw [seq_nx hf, seq_rt (ret_ok (w := .bl true) (m1 := m') (by simp [evE]))]
end My
end
section
set_option Elab.async false
set_option linter.all false
open PySem PySem.W PyProof.Rows
set_option maxRecDepth 100000 in
set_option maxHeartbeats 0 in
theorem PySem.Challenge.cw_relayholds_k62_parted_holds : PySem.Challenge.rw_relayholds_k62_parted.Holds := by
  w_on; o_law; k_head; (case hw => w_witness2)
  k_fill
  refine D.law_walk (l := PySem.Challenge.rw_relayholds_k62_parted) (cl := fun _ _ => 0) (prog := My.prog) (fuel := My.fuel) (i := 7) (x := "_law_script") rfl rfl (fun w h Y => PySem.W.kIn_of Y) ?F My.law_holds
  case F =>
    intro w mg fa h KX G hmg
    refine' My.all_mk KX G hmg ?a0 ?l0 ?c0 ?k0 ?a1 ?l1 ?c1 ?k1 ?a2 ?l2 ?c2 ?k2 ?a3 ?l3 ?c3 ?k3 ?a4 ?l4 ?c4 ?k4 ?a5 ?l5 ?c5 ?k5 ?a6 ?l6 ?c6 ?k6 ?a7 ?l7 ?c7 ?k7 ?z_len ?z_abs ?z_max ?z_min ?z_divmod ?z_all ?z_any ?z_list ?z_tuple ?z_int ?z_bool ?z_str ?z_dict ?z_isinstance ?z_range ?z_enumerate ?z_zip ?z_sorted
    (case a0 => k_is)
    (case l0 => k_is)
    (case c0 => k_is)
    (case k0 => k_is)
    (case a1 => k_is)
    (case l1 => k_is)
    (case c1 => k_is)
    (case k1 => k_is)
    (case a2 => k_is)
    (case l2 => k_is)
    (case c2 => k_is)
    (case k2 => k_is)
    (case a3 => k_is)
    (case l3 => k_is)
    (case c3 => k_is)
    (case k3 => k_is)
    (case a4 => k_is)
    (case l4 => k_is)
    (case c4 => k_is)
    (case k4 => k_is)
    (case a5 => k_is)
    (case l5 => k_is)
    (case c5 => k_is)
    (case k5 => k_is)
    (case a6 => k_is)
    (case l6 => k_is)
    (case c6 => k_is)
    (case k6 => k_is)
    (case a7 => k_is)
    (case l7 => k_is)
    (case c7 => k_is)
    (case k7 => k_is)
    (case z_len => k_is)
    (case z_abs => k_is)
    (case z_max => k_is)
    (case z_min => k_is)
    (case z_divmod => k_is)
    (case z_all => k_is)
    (case z_any => k_is)
    (case z_list => k_is)
    (case z_tuple => k_is)
    (case z_int => k_is)
    (case z_bool => k_is)
    (case z_str => k_is)
    (case z_dict => k_is)
    (case z_isinstance => k_is)
    (case z_range => k_is)
    (case z_enumerate => k_is)
    (case z_zip => k_is)
    (case z_sorted => k_is)
end
