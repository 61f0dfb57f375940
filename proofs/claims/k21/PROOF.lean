import PyProof.Rows.All
import Wide.All
import OpenK.AllK
import Wide.FinOn
import Lean
import PyProof.EqAt
import PyProof.EqKinds
import PyProof.TupleCall
import PySem.Challenge.RW_forestread_k21_spans_stand
set_option Elab.async false
set_option linter.all false
set_option maxRecDepth 100000

namespace L2
open PySem PySem.Spec PyProof.Rows


abbrev Key := Sum Int Str
def keyIs : Key → Value → Bool
  | .inl k, v => Value.isInt k v
  | .inr x, v => Value.isStrOf x v
def keyH (w : World) : Key → Int
  | .inl k => hashInt k
  | .inr x => hashStr w x
theorem keyIs_shape : ∀ {k : Key} {v : Value}, keyIs k v = true → (∃ i t, k = Sum.inl i ∧ v = Value.int i t) ∨ (∃ x t, k = Sum.inr x ∧ v = Value.str x t)
  | .inl i, v, h => by
    obtain ⟨t, e⟩ := Value.isInt_shape (k := i) (v := v) h
    exact .inl ⟨i, t, rfl, e⟩
  | .inr x, v, h => by
    obtain ⟨t, e⟩ := Value.isStrOf_shape (x := x) (v := v) h
    exact .inr ⟨x, t, rfl, e⟩
theorem keyIs_int (i : Int) (t : Tok) : keyIs (.inl i) (.int i t) = true := by simp [keyIs, Value.isInt]
theorem keyIs_str (x : Str) (t : Tok) : keyIs (.inr x) (.str x t) = true := by simp [keyIs, Value.isStrOf]
theorem key_ll (a b : Int) : decide ((Sum.inl a : Key) = Sum.inl b) = (a == b) := by
  by_cases e : a = b
  · subst e; simp
  · have h : ¬ (Sum.inl a : Key) = Sum.inl b := fun q => e (Sum.inl.inj q)
    rw [decide_eq_false h]
    exact (beq_eq_false_iff_ne.mpr e).symm
theorem key_rr (a b : Str) : decide ((Sum.inr a : Key) = Sum.inr b) = decide (a = b) := by
  by_cases e : a = b
  · subst e; simp
  · have h : ¬ (Sum.inr a : Key) = Sum.inr b := fun q => e (Sum.inr.inj q)
    rw [decide_eq_false h, decide_eq_false e]
theorem key_lr (a : Int) (b : Str) : decide ((Sum.inl a : Key) = Sum.inr b) = false := decide_eq_false (fun q => nomatch q)
theorem key_rl (a : Str) (b : Int) : decide ((Sum.inr a : Key) = Sum.inl b) = false := decide_eq_false (fun q => nomatch q)

def mixKind (prog : Program) (w : World) : PySem.KeyKind prog w Key where
  is := keyIs
  hash := keyH w
  inj := fun v a b ha hb => by
    rcases keyIs_shape ha with ⟨i, t, rfl, rfl⟩ | ⟨x, t, rfl, rfl⟩
    · rcases keyIs_shape hb with ⟨j, u, rfl, e⟩ | ⟨y, u, rfl, e⟩
      · injection e with e1 _; rw [e1]
      · exact nomatch e
    · rcases keyIs_shape hb with ⟨j, u, rfl, e⟩ | ⟨y, u, rfl, e⟩
      · exact nomatch e
      · injection e with e1 _; rw [e1]
  byValue := fun k v h => by
    rcases keyIs_shape h with ⟨i, t, rfl, rfl⟩ | ⟨x, t, rfl, rfl⟩ <;> rfl
  pyHash := fun hv h => by
    rcases keyIs_shape hv with ⟨i, t, rfl, rfl⟩ | ⟨x, t, rfl, rfl⟩
    · exact wpAny_pyHash_int h
    · exact wpAny_pyHash_str h
  eqBool := fun hu hv h => by
    rcases keyIs_shape hu with ⟨i, t, rfl, rfl⟩ | ⟨x, t, rfl, rfl⟩
    · rcases keyIs_shape hv with ⟨j, u, rfl, rfl⟩ | ⟨y, u, rfl, rfl⟩
      · rw [key_ll] at h; exact wpAny_eqBool_int h
      · rw [key_lr] at h; exact SeqAt.EqAt.int_str i t y u _ _ _ _ h
    · rcases keyIs_shape hv with ⟨j, u, rfl, rfl⟩ | ⟨y, u, rfl, rfl⟩
      · rw [key_rl] at h; exact SeqAt.EqAt.str_int x t j u _ _ _ _ h
      · rw [key_rr] at h; exact wpAny_eqBool_str h
  «strs» := fun k x t v h => by
    rcases keyIs_shape h with ⟨i, u, rfl, e⟩ | ⟨y, u, rfl, e⟩
    · exact nomatch e
    · injection e with e1 _
      subst e1
      cases v <;> rfl

theorem mixKind_int (prog : Program) (w : World) (i : Int) (t : Tok) : (mixKind prog w).is (.inl i) (.int i t) = true := keyIs_int i t
theorem mixKind_str (prog : Program) (w : World) (x : Str) (t : Tok) : (mixKind prog w).is (.inr x) (.str x t) = true := keyIs_str x t
end L2

namespace L2
open PySem PySem.Spec PyProof.Rows


inductive V where
  | non | bl (b : Bool) | int (i : Int) | str (x : Str) | byt (b : Array UInt8) | flt (b : UInt64) | ref (a : Addr) | ty (n : String)
  deriving DecidableEq

def RelV : V → Value → Prop
  | .non, u => u = Value.none
  | .bl b, u => u = Value.bool b
  | .int i, u => ∃ t, u = Value.int i t
  | .str x, u => ∃ t, u = Value.str x t
  | .byt b, u => ∃ t, u = Value.bytes b t
  | .flt b, u => ∃ t, u = Value.float b t
  | .ref a, u => u = Value.ref a
  | .ty n, u => u = Value.type n

abbrev Vals : List V → List Value → Prop := Paired RelV
theorem Vals.length {xs : List V} {us : List Value} (r : Vals xs us) : xs.length = us.length := Paired.length r
theorem Vals.get : ∀ {xs : List V} {us : List Value} {i : Nat} {x : V}, Vals xs us → xs[i]? = some x → ∃ u, us[i]? = some u ∧ RelV x u
  | _, _, _, _, .nil, e => by simp at e
  | _, _, 0, _, .cons r _, e => by simp at e; subst e; exact ⟨_, rfl, r⟩
  | _, _, i + 1, x, .cons _ t, e => by
    obtain ⟨u, h1, h2⟩ := Vals.get (i := i) (x := x) t (by simpa using e)
    exact ⟨u, by simpa using h1, h2⟩
theorem Vals.set {x : V} {u : Value} (r : RelV x u) : ∀ {xs : List V} {us : List Value} (i : Nat), Vals xs us → Vals (xs.set i x) (us.set i u)
  | _, _, _, .nil => .nil
  | _, _, 0, .cons _ t => .cons r t
  | _, _, i + 1, .cons q t => .cons q (Vals.set r i t)
theorem Vals.append : ∀ {xs ys : List V} {us ws : List Value}, Vals xs us → Vals ys ws → Vals (xs ++ ys) (us ++ ws)
  | _, _, _, _, .nil, s => s
  | _, _, _, _, .cons r t, s => .cons r (Vals.append t s)
theorem Vals.take : ∀ {xs : List V} {us : List Value} (n : Nat), Vals xs us → Vals (xs.take n) (us.take n)
  | _, _, 0, _ => .nil
  | _, _, _ + 1, .nil => .nil
  | _, _, n + 1, .cons r t => .cons r (Vals.take n t)
theorem Vals.drop : ∀ {xs : List V} {us : List Value} (n : Nat), Vals xs us → Vals (xs.drop n) (us.drop n)
  | _, _, 0, r => r
  | _, _, _ + 1, .nil => .nil
  | _, _, n + 1, .cons _ t => Vals.drop n t
theorem Vals.none_of : ∀ {xs : List V} {us : List Value} {i : Nat}, Vals xs us → xs[i]? = none → us[i]? = none := fun {xs us i} r e => by
  have h1 := r.length
  have h2 : xs.length ≤ i := List.getElem?_eq_none_iff.mp e
  exact List.getElem?_eq_none_iff.mpr (by omega)

def RelO : Option V → Option Value → Prop
  | some v, some u => RelV v u
  | none, none => True
  | _, _ => False
def KV {κ : Type} : List (κ × V) → List (κ × Value) → Prop := Paired fun (p : κ × V) (q : κ × Value) => p.1 = q.1 ∧ RelV p.2 q.2


def kV : Key → V
  | .inl i => .int i
  | .inr x => .str x


inductive HO where
  
  | lst (xs : List V)
  
  | tup (xs : List V)
  
  | dK (kvs : List (Key × V)) | dT (kvs : List (List Key × V))
  
  | set (S : Int → Bool) (n : Nat)
  
  | ins (C dx : Addr) (fs : List (Str × V))
  
  | own (x : Addr)
  
  | xd (fs : List (Str × V))
  
  | met (f x : Addr)
  
  | rng (lo hi : Int)
  
  | frz (o : Obj) (u : HO)
  
  | tbl (ps : Array Value)
  
  | ext (φ : Heap → Prop)

abbrev Hp := Addr → Option HO
def upd (H : Hp) (a : Addr) (o : HO) : Hp := fun b => if b = a then some o else H b
theorem upd_same {H : Hp} {a : Addr} {o : HO} : upd H a o a = some o := by unfold upd; rw [if_pos rfl]
theorem upd_ne {H : Hp} {a b : Addr} {o : HO} (h : b ≠ a) : upd H a o b = H b := by unfold upd; rw [if_neg h]
theorem upd_upd {H : Hp} {a : Addr} {o u : HO} : upd (upd H a o) a u = upd H a u := by
  funext b; unfold upd; split <;> rfl

theorem ne_of {H : Hp} {a b : Addr} {o u : HO} (h : H a = some o) (h' : H b = some u) (d : o ≠ u) : a ≠ b := by
  intro e; subst e; rw [h] at h'; exact d (Option.some.inj h')
theorem ne_of_none {H : Hp} {a b : Addr} {o : HO} (h : H a = some o) (h' : H b = none) : a ≠ b := by
  intro e; subst e; rw [h] at h'; cases h'

section
variable (P : Program) (w : World)
def ObjOk (H : Hp) (h : Heap) (a : Addr) : HO → Prop
  | .lst xs => xs.length ≤ sizeLine ∧ ∃ (its : List Value) (n : Nat), Vals xs its ∧ h.get? a = some { cls := .type "list", data := .seq its.toArray n }
  | .tup xs => xs.length ≤ sizeLine ∧ ∃ its : List Value, Vals xs its ∧ IsTup h a its.toArray
  | .dK kvs => kvs.length ≤ sizeLine ∧ (a == sysModules) = false ∧ ∃ vs, KV kvs vs ∧ h.DictOf (mixKind P w) a vs
  | .dT kvs => kvs.length ≤ sizeLine ∧ (a == sysModules) = false ∧ ∃ xs : List (List Key × Addr × Value),
      Paired (fun (p : List Key × V) (q : List Key × Addr × Value) => p.1 = q.1 ∧ H q.2.1 = some (.tup (p.1.map kV)) ∧ RelV p.2 q.2.2) kvs xs ∧
      ∃ o es ep, h.get? a = some o ∧ o.ExactDict ∧ o.data = .dict es ep ∧ es.toList = xs.map (entryOfKey (tupleKind (mixKind P w))) ∧ (xs.map (·.1)).Nodup
  | .set S n => h.SetOf (intKind P w) a S n
  | .ins C dx fs => H dx = some (.own a) ∧ fs.length ≤ 1000 ∧ dx ≠ a ∧ h.get? a = some (PySem.W.instObj C dx) ∧
      ∃ mA, h.Ns1 dx mA ∧ (∀ f, RelO (fs.lookup f) (mA f)) ∧ PySem.Within mA (fs.map (·.1))
  | .own _ => ∃ o, h.get? a = some o
  | .xd fs => ∃ mA, h.Ns1 a mA ∧ ∀ f, RelO (fs.lookup f) (mA f)
  | .rng lo hi => ∃ t u v, h.get? a = some { cls := .type "range", data := .fields #[.int lo t, .int hi u, .int 1 v] }
  | .frz o u => h.get? a = some o ∧ ObjOk H h a u
  | .tbl ps => h.get? a = some { cls := .none, data := .fields ps }
  | .met f x => h.get? a = some (PySem.W.methodObj (.ref f) (.ref x))
  | .ext φ => φ h ∧ (∃ o, h.get? a = some o) ∧ ∀ h1 h2 : Heap, φ h1 → (∀ o, h1.get? a = some o → h2.get? a = some o) → φ h2

def HOk (H : Hp) (h : Heap) : Prop := ∀ a o, H a = some o → ObjOk P w H h a o
end

section
variable {P : Program} {w : World} {H H' : Hp} {h h' : Heap} {a : Addr} {o : HO}
theorem ObjOk.lt (x : ObjOk P w H h a o) : a < h.objs.size := by
  cases o with
  | lst xs => obtain ⟨_, _, _, _, e⟩ := x; exact Heap.lt_size e
  | tup xs => obtain ⟨_, _, _, p⟩ := x; exact p.lt
  | dK kvs => obtain ⟨_, _, _, _, o, _, _, e, _⟩ := x; exact Heap.lt_size e
  | dT kvs => obtain ⟨_, _, _, _, o, _, _, e, _⟩ := x; exact Heap.lt_size e
  | set S n => obtain ⟨o, _, _, _, e, _⟩ := x; exact Heap.lt_size e
  | ins C dx fs => obtain ⟨_, _, _, e, _⟩ := x; exact Heap.lt_size e
  | own y => obtain ⟨_, e⟩ := x; exact Heap.lt_size e
  | xd fs => obtain ⟨_, ⟨_, _, _, e, _⟩, _⟩ := x; exact Heap.lt_size e
  | rng lo hi => obtain ⟨_, _, _, e⟩ := x; exact Heap.lt_size e
  | frz ob u => obtain ⟨e, _⟩ := x; exact Heap.lt_size e
  | tbl ps => exact Heap.lt_size (show h.get? a = some _ from x)
  | met f y => exact Heap.lt_size (show h.get? a = some _ from x)
  | ext φ => obtain ⟨_, ⟨_, e⟩, _⟩ := x; exact Heap.lt_size e
theorem Paired.mapP {α β : Type} {F G : α → β → Prop} : ∀ {l₁ : List α} {l₂ : List β}, Paired F l₁ l₂ → (∀ a b, F a b → G a b) → Paired G l₁ l₂
  | _, _, .nil, _ => .nil
  | _, _, .cons r t, f => .cons (f _ _ r) (Paired.mapP t f)
theorem ObjOk.stay (x : ObjOk P w H h a o) (k : ∀ b u, (b = a ∨ H b = some (.own a)) → h.get? b = some u → h'.get? b = some u)
    (ho : ∀ b, H b = some (.own a) → H' b = some (.own a)) (ht : ∀ b xs, H b = some (.tup xs) → H' b = some (.tup xs)) : ObjOk P w H' h' a o := by
  induction o with
  | lst xs => obtain ⟨z, its, n, r, e⟩ := x; exact ⟨z, its, n, r, k _ _ (.inl rfl) e⟩
  | tup xs => obtain ⟨z, its, r, ob, e, c⟩ := x; exact ⟨z, its, r, ob, k _ _ (.inl rfl) e, c⟩
  | dK kvs => obtain ⟨z, y, vs, r, ob, es, ep, e, c⟩ := x; exact ⟨z, y, vs, r, ob, es, ep, k _ _ (.inl rfl) e, c⟩
  | dT kvs =>
    obtain ⟨z, y, xs, r, ob, es, ep, e, c⟩ := x
    exact ⟨z, y, xs, Paired.mapP r fun p q z => ⟨z.1, ht _ _ z.2.1, z.2.2⟩, ob, es, ep, k _ _ (.inl rfl) e, c⟩
  | set S n => obtain ⟨ob, es, ep, t, e, c⟩ := x; exact ⟨ob, es, ep, t, k _ _ (.inl rfl) e, c⟩
  | ins C dx fs =>
    obtain ⟨d, z, ne, e, mA, ⟨od, es, ep, e2, c⟩, r⟩ := x
    exact ⟨ho _ d, z, ne, k _ _ (.inl rfl) e, mA, ⟨od, es, ep, k _ _ (.inr d) e2, c⟩, r⟩
  | own y => obtain ⟨ob, e⟩ := x; exact ⟨ob, k _ _ (.inl rfl) e⟩
  | xd fs => obtain ⟨mA, ⟨od, es, ep, e, c⟩, r⟩ := x; exact ⟨mA, ⟨od, es, ep, k _ _ (.inl rfl) e, c⟩, r⟩
  | rng lo hi => obtain ⟨t, u, v, e⟩ := x; exact ⟨t, u, v, k _ _ (.inl rfl) e⟩
  | frz ob u ih => obtain ⟨e, q⟩ := x; exact ⟨k _ _ (.inl rfl) e, ih q⟩
  | tbl ps =>
    have e : h.get? a = some { cls := .none, data := .fields ps } := x
    show h'.get? a = some { cls := .none, data := .fields ps }
    exact k a _ (.inl rfl) e
  | met f y =>
    have e : h.get? a = some (PySem.W.methodObj (.ref f) (.ref y)) := x
    show h'.get? a = some (PySem.W.methodObj (.ref f) (.ref y))
    exact k a _ (.inl rfl) e
  | ext φ => obtain ⟨p, ⟨o, e⟩, st⟩ := x; exact ⟨st _ _ p fun o q => k _ _ (.inl rfl) q, ⟨o, k _ _ (.inl rfl) e⟩, st⟩
theorem HOk.lt (x : HOk P w H h) (e : H a = some o) : a < h.objs.size := (x a o e).lt
theorem HOk.fresh (x : HOk P w H h) (e : h.objs.size ≤ a) : H a = none := by
  cases q : H a with
  | none => rfl
  | some u => exact absurd (Nat.lt_of_lt_of_le (x.lt q) e) (Nat.lt_irrefl _)

theorem HOk.kept (x : HOk P w H h) (k : ∀ b u, h.get? b = some u → h'.get? b = some u) : HOk P w H h' := fun a o e =>
  (x a o e).stay (fun b u _ q => k b u q) (fun _ q => q) fun _ _ q => q

theorem HOk.laid (x : HOk P w H h) (k : ∀ b u, h.get? b = some u → h'.get? b = some u) (hp : h.objs.size ≤ a) (new : ObjOk P w (upd H a o) h' a o) : HOk P w (upd H a o) h' := fun b u e => by
  have hn := x.fresh hp
  by_cases hb : b = a
  · subst hb; rw [upd_same] at e; cases e; exact new
  · rw [upd_ne hb] at e
    exact (x b u e).stay (fun c v _ q => k c v q) (fun c q => by rw [upd_ne (ne_of_none q hn)]; exact q) fun c xs q => by rw [upd_ne (ne_of_none q hn)]; exact q
end


def Rd (H : Hp) (a : Addr) (u : HO) : Prop := H a = some u ∨ ∃ o, H a = some (.frz o u)
theorem Rd.of {H : Hp} {a : Addr} {u : HO} (h : H a = some u) : Rd H a u := .inl h
theorem Rd.ok {P : Program} {w : World} {H : Hp} {h : Heap} {a : Addr} {u : HO} (r : Rd H a u) (x : HOk P w H h) : ObjOk P w H h a u := by
  rcases r with r | ⟨o, r⟩
  · exact x a u r
  · obtain ⟨_, q⟩ := x a _ r
    exact q

def Mut : Option HO → Prop
  | some (.lst _) => True
  | some (.dK _) => True
  | some (.dT _) => True
  | some (.set _ _) => True
  | some (.ins _ _ _) => True
  | some (.ext _) => True
  | _ => False
section
variable {P : Program} {w : World} {H : Hp} {h h' : Heap} {x e : Addr} {o' : HO}

theorem HOk.write (ok : HOk P w H h) (mu : Mut (H x)) (he : e = x ∨ H e = some (.own x)) (k : ∀ b u, b ≠ e → h.get? b = some u → h'.get? b = some u) (heo : ∃ u, h'.get? e = some u)
    (new : ObjOk P w (upd H x o') h' x o') : HOk P w (upd H x o') h' := fun b u q => by
  have nown : ∀ c y, H c = some (.own y) → c ≠ x := fun c y r z => by subst z; rw [r] at mu; exact mu
  have ntup : ∀ c xs, H c = some (.tup xs) → c ≠ x := fun c xs r z => by subst z; rw [r] at mu; exact mu
  by_cases hb : b = x
  · subst hb; rw [upd_same] at q; cases q; exact new
  · rw [upd_ne hb] at q
    by_cases hbe : b = e
    · have q' : H b = some (.own x) := by
        rcases he with z | z
        · exact absurd (hbe.trans z) hb
        · rw [hbe]; exact z
      rw [q] at q'; cases q'
      obtain ⟨v, hv⟩ := heo
      exact ⟨v, by rw [hbe]; exact hv⟩
    · refine (ok b u q).stay (fun c v hc r => k c v ?_ r) (fun c r => by rw [upd_ne (nown c b r)]; exact r) fun c xs r => by rw [upd_ne (ntup c xs r)]; exact r
      rcases hc with rfl | hc
      · exact hbe
      · rintro rfl
        rcases he with z | z
        · exact nown c b hc z
        · rw [hc] at z; cases z; exact hb rfl
end


structure Un (fs ex : List Addr) (H H' : Hp) (h h' : Heap) : Prop where
  keep : ∀ b o, h.get? b = some o → H b = none → b ∉ fs → b ∉ ex → h'.get? b = some o
  slot : ∀ b o, h.get? b = some o → H b = none → b ∈ fs → b ∉ ex → ∃ sl, h'.get? b = some { o with slots := sl }
  free : ∀ b o, h.get? b = some o → H b = none → b ∉ ex → H' b = none
  there : ∀ b o, h.get? b = some o → b ∉ ex → ∃ o', h'.get? b = some o'
  tups : ∀ b xs, H b = some (.tup xs) → H' b = some (.tup xs)
  frzs : ∀ b o u, H b = some (.frz o u) → H' b = some (.frz o u)
  tbls : ∀ b ps, H b = some (.tbl ps) → ∃ more, H' b = some (.tbl (ps ++ more))
section
variable {fs fs' ex ex' : List Addr} {H H1 H2 : Hp} {h h1 h2 h' : Heap} {a x e : Addr} {o : HO}
theorem Un.any (u : Un fs ex H H1 h h1) {b : Addr} {ob : Obj} (q : h.get? b = some ob) (n : H b = none) (hx : b ∉ ex) : ∃ sl, h1.get? b = some { ob with slots := sl } := by
  by_cases hb : b ∈ fs
  · exact u.slot b ob q n hb hx
  · exact ⟨ob.slots, u.keep b ob q n hb hx⟩
theorem Un.trans (a : Un fs ex H H1 h h1) (b : Un fs ex H1 H2 h1 h2) : Un fs ex H H2 h h2 where
  keep := fun c ob q n hc hx => b.keep c ob (a.keep c ob q n hc hx) (a.free c ob q n hx) hc hx
  slot := fun c ob q n hc hx => by
    obtain ⟨sl, e1⟩ := a.slot c ob q n hc hx
    obtain ⟨sl', e2⟩ := b.slot c _ e1 (a.free c ob q n hx) hc hx
    exact ⟨sl', e2⟩
  free := fun c ob q n hx => by
    obtain ⟨o', e1⟩ := a.there c ob q hx
    exact b.free c o' e1 (a.free c ob q n hx) hx
  there := fun c ob q hx => by
    obtain ⟨o', e1⟩ := a.there c ob q hx
    exact b.there c o' e1 hx
  tups := fun c xs q => b.tups c xs (a.tups c xs q)
  frzs := fun c ob xs q => b.frzs c ob xs (a.frzs c ob xs q)
  tbls := fun c ps q => by
    obtain ⟨m1, e1⟩ := a.tbls c ps q
    obtain ⟨m2, e2⟩ := b.tbls c _ e1
    exact ⟨m1 ++ m2, by rw [e2, Array.append_assoc]⟩
theorem Un.kept (k : ∀ b u, h.get? b = some u → h'.get? b = some u) : Un fs ex H H h h' :=
  ⟨fun b ob q _ _ _ => k b ob q, fun b ob q _ _ _ => ⟨ob.slots, k b ob q⟩, fun _ _ _ n _ => n, fun b ob q _ => ⟨ob, k b ob q⟩, fun _ _ q => q, fun _ _ _ q => q, fun _ ps q => ⟨#[], by rw [q]; simp⟩⟩
theorem Un.refl : Un fs ex H H h h := Un.kept fun _ _ q => q
theorem Un.laid (k : ∀ b u, h.get? b = some u → h'.get? b = some u) (hp : h.objs.size ≤ a) (hn : H a = none) : Un fs ex H (upd H a o) h h' where
  keep := fun b u q _ _ _ => k b u q
  slot := fun b u q _ _ _ => ⟨u.slots, k b u q⟩
  free := fun b u q n _ => by rw [upd_ne (Nat.ne_of_lt (Nat.lt_of_lt_of_le (Heap.lt_size q) hp))]; exact n
  there := fun b u q _ => ⟨u, k b u q⟩
  tups := fun b xs q => by rw [upd_ne (ne_of_none q hn)]; exact q
  frzs := fun b u xs q => by rw [upd_ne (ne_of_none q hn)]; exact q
  tbls := fun b ps q => ⟨#[], by rw [upd_ne (ne_of_none q hn), q]; simp⟩
theorem Un.write (mu : Mut (H x)) (he : e = x ∨ H e = some (.own x)) (k : ∀ b u, b ≠ e → h.get? b = some u → h'.get? b = some u) (heo : ∃ u, h'.get? e = some u) : Un fs ex H (upd H x o) h h' := by
  have hx : ∀ b, H b = none → b ≠ x := fun b n z => by subst z; rw [n] at mu; exact mu
  have hb : ∀ b, H b = none → b ≠ e := fun b n z => by
    subst z
    rcases he with r | r
    · exact hx b n r
    · rw [n] at r; cases r
  have hm : ∀ b u, H b = some u → ¬ Mut (some u) → b ≠ x := fun b u q nm z => by subst z; rw [q] at mu; exact nm mu
  refine ⟨fun b u q n _ _ => k b u (hb b n) q, fun b u q n _ _ => ⟨u.slots, k b u (hb b n) q⟩, fun b u q n _ => by rw [upd_ne (hx b n)]; exact n, fun b u q _ => ?_,
    fun b xs q => by rw [upd_ne (hm b _ q fun z => z)]; exact q, fun b u xs q => by rw [upd_ne (hm b _ q fun z => z)]; exact q, fun b ps q => ⟨#[], by rw [upd_ne (hm b _ q fun z => z), q]; simp⟩⟩
  by_cases hbe : b = e
  · subst hbe; exact heo
  · exact ⟨u, k b u hbe q⟩
theorem Un.mono (u : Un fs ex H H1 h h1) (hs : ∀ b ∈ fs, b ∈ fs') (hx : ∀ b ∈ ex, b ∈ ex') : Un fs' ex' H H1 h h1 :=
  ⟨fun b ob q n hb he => u.keep b ob q n (fun z => hb (hs b z)) fun z => he (hx b z), fun _ _ q n _ he => u.any q n fun z => he (hx _ z), fun b ob q n he => u.free b ob q n fun z => he (hx b z), fun b ob q he => u.there b ob q fun z => he (hx b z), u.tups, u.frzs, u.tbls⟩
end


def trk (h : Heap) (H : Hp) : List Addr := (List.range h.objs.size).filter fun a => (H a).isSome
def hidT (h : Heap) (H : Hp) : Heap := PySem.W.hideAll h (trk h H)
theorem hidT_size (h : Heap) (H : Hp) : (hidT h H).objs.size = h.objs.size := PySem.W.hideAll_size _ _
theorem hidT_get {h : Heap} {H : Hp} {b : Addr} {o : Obj} (e : h.get? b = some o) (n : H b = none) : (hidT h H).get? b = some o :=
  PySem.W.hideAll_get _ e fun hm => by
    have q : (H b).isSome = true := (List.mem_filter.mp hm).2
    rw [n] at q; simp at q
theorem of_hidT {h : Heap} {H : Hp} {b : Addr} {o : Obj} (e : (hidT h H).get? b = some o) : h.get? b = some o ∧ H b = none := by
  have e' : h.get? b = some o := PySem.W.of_hideAll (trk h H) e
  refine ⟨e', ?_⟩
  cases q : H b with
  | none => rfl
  | some x =>
    have hm : b ∈ trk h H := List.mem_filter.mpr ⟨List.mem_range.mpr (Heap.lt_size e'), by simp [q]⟩
    have z : (hidT h H).get? b = none := PySem.W.hideAll_none (trk h H) hm
    rw [z] at e; cases e


def allNews (g h : Heap) (L : Addr) : List (Addr × Obj) := (List.range h.objs.size).filterMap fun a => if a = L ∨ (g.get? a).isSome = true then none else (h.get? a).map fun o => (a, o)
def rest (g h : Heap) (L d : Addr) : List (Addr × Obj) := (allNews g h L).filter fun p => decide (p.1 ≠ d)
end L2

namespace L2
open PySem PySem.Spec PyProof.Rows


structure Mod (K : PySem.W.Frag) (mg : Str → Option Value) (base : Heap) : Prop where
  kin : K.In base
  glob : base.Ns mainGlobals mg
  blt : ∃ mb, base.Ns builtinsNs mb ∧ ∀ x : Str, x ≠ "__name__" → mb x = bootBuiltins x
  nolimit : base.NoLimit


structure Cx where
  prog : Program
  w : World
  K : PySem.W.Frag
  mg : Str → Option Value
  base : Heap
  A : Around
  N : List Str
  s₀ : Shared
  H₀ : Hp
  env : Env
  outer : List Env
  stack : List Env
  ex : List Addr
  fn : Str → Bool
  calm : Bool
  pn : List (Addr × Obj)
  xe : Value → Shared → Prop

def frs (l : List Env) : List Addr := l.filterMap (·.frame)
abbrev Cx.fs (X : Cx) : List Addr := frs X.outer

def Vis (sc : Scope) (x : Str) : Prop := sc.names.lookup x = some .local ∨ sc.names.lookup x = some .cell ∨ sc.names.lookup x = some .free
def Loc (sc : Scope) (x : Str) : Prop := sc.names.lookup x = some .local ∨ sc.names.lookup x = some .cell
def Look (env : Env) (h : Heap) (m : Str → Option Value) (x : Str) (u : Value) : Prop :=
  (env.kindOf x = some .local ∧ m x = some u) ∨ ((env.kindOf x = some .cell ∨ env.kindOf x = some .free) ∧ ∃ c, env.cells.lookup x = some c ∧ h.IsCell c (some u))

structure Cx.Ok (X : Cx) : Prop where
  mod : Mod X.K X.mg X.base
  kind : X.env.scope.kind = .function
  glob : X.env.globals = mainGlobals
  blt : X.env.builtins = builtinsNs
  above : X.s₀.heap.objs.size ≤ X.env.locals
  inj : ∀ x y c, X.env.cells.lookup x = some c → X.env.cells.lookup y = some c → x = y
  has : ∀ x, (X.env.kindOf x = some .cell ∨ X.env.kindOf x = some .free) → ∃ c, X.env.cells.lookup x = some c
  cab : ∀ x c, X.fn x = true → X.env.cells.lookup x = some c → X.s₀.heap.objs.size ≤ c
  hd : X.calm = true → X.A.handled = none
  frames : X.A.frames = some X.stack
  stk : X.stack = X.outer ∨ (X.stack = X.env :: X.outer ∧ X.env.frame = some X.env.locals)
  exf : ∀ b ∈ X.ex, b ≠ X.env.locals ∧ ∀ x c, X.env.cells.lookup x = some c → c ≠ b
  bs : ∀ b o, X.base.get? b = some o → X.s₀.heap.get? b = some o ∧ X.H₀ b = none
  bsz : X.base.objs.size ≤ X.s₀.heap.objs.size
  noex : ∀ b o, X.base.get? b = some o → b ∉ X.ex
  exfs : ∀ b ∈ X.ex, b ∉ X.fs
  funs : X.s₀.heap.FunFrames X.base X.outer
  frf : ∀ b ∈ X.fs, X.H₀ b = none

structure Inv (X : Cx) (pins : List (Addr × Obj)) (σ : List (Option V)) (H : Hp) (s : Shared) : Prop where
  ok : X.Ok
  os : s.os = X.s₀.os
  bare : AllBare s.gens
  base : Un X.fs X.ex X.H₀ H X.s₀.heap s.heap
  loc : ∃ m, s.heap.Ns X.env.locals m ∧ ∀ (i : Nat) (x : Str) (v : V), X.N[i]? = some x → σ[i]? = some (some v) → Vis X.env.scope x → ∃ u, RelV v u ∧ Look X.env s.heap m x u
  cell : ∀ x c, X.env.cells.lookup x = some c → ∃ v, s.heap.IsCell c v
  free : H X.env.locals = none
  freeC : ∀ x c, X.env.cells.lookup x = some c → H c = none
  pin : ∀ p ∈ X.pn ++ pins, s.heap.get? p.1 = some p.2 ∧ H p.1 = none ∧ p.1 ≠ X.env.locals ∧ p.1 ∉ X.fs ∧ ∀ v, p.2.data ≠ .cell v
  hok : HOk X.prog X.w H s.heap
  len : σ.length = X.N.length

section
variable {X : Cx} {pins : List (Addr × Obj)} {σ : List (Option V)} {H H' : Hp} {s : Shared} {h' : Heap}

theorem Cx.Ok.nofr (ok : X.Ok) {b : Addr} {o : Obj} (e : X.base.get? b = some o) : b ∉ X.fs := fun hb => by
  have := (ok.funs.mem hb).1
  rw [e] at this; cases this
theorem Inv.bs (I : Inv X pins σ H s) : ∀ b o, X.base.get? b = some o → s.heap.get? b = some o ∧ H b = none := fun b o e =>
  ⟨I.base.keep b o (I.ok.bs b o e).1 (I.ok.bs b o e).2 (I.ok.nofr e) (I.ok.noex b o e), I.base.free b o (I.ok.bs b o e).1 (I.ok.bs b o e).2 (I.ok.noex b o e)⟩
theorem Inv.bk (I : Inv X pins σ H s) : ∀ b o, X.base.get? b = some o → s.heap.get? b = some o := fun b o e => (I.bs b o e).1
theorem Inv.mod (I : Inv X pins σ H s) : Mod X.K X.mg X.base := I.ok.mod
theorem Inv.kIn (I : Inv X pins σ H s) : X.K.In s.heap := I.ok.mod.kin.keeps I.bk
theorem Inv.nolimit (I : Inv X pins σ H s) : s.heap.NoLimit := I.ok.mod.nolimit.keeps I.bk

theorem Inv.fr (I : Inv X pins σ H s) : ∃ m, Fr X.base X.env.locals s.heap m :=
  let ⟨m, hn, _⟩ := I.loc
  ⟨m, hn, I.bk, Nat.le_trans I.ok.bsz I.ok.above⟩
theorem Inv.lt (I : Inv X pins σ H s) : X.env.locals < s.heap.objs.size := let ⟨_, hn, _⟩ := I.loc; hn.lt
theorem Inv.sz (I : Inv X pins σ H s) : X.s₀.heap.objs.size ≤ s.heap.objs.size := Nat.le_trans I.ok.above (Nat.le_of_lt I.lt)
theorem Inv.nofs (I : Inv X pins σ H s) {a : Addr} (h : s.heap.objs.size ≤ a) : a ∉ X.fs := fun hb => by
  obtain ⟨_, o, ho, _⟩ := I.ok.funs.mem hb
  exact absurd (Nat.lt_of_lt_of_le (Heap.lt_size ho) (Nat.le_trans I.sz h)) (Nat.lt_irrefl _)
theorem Inv.cne (I : Inv X pins σ H s) : ∀ x c, X.env.cells.lookup x = some c → c ≠ X.env.locals := fun x c e z => by
  obtain ⟨v, o, ho, hd⟩ := I.cell x c e
  obtain ⟨m, ⟨o', es, ep, ho', hd', _⟩, _⟩ := I.loc
  rw [z, ho'] at ho; cases ho; rw [hd'] at hd; cases hd
theorem Inv.funs (I : Inv X pins σ H s) : s.heap.FunFrames X.base X.outer := by
  have all : ∀ (l : List Env), (∀ b ∈ frs l, b ∈ X.fs) → X.s₀.heap.FunFrames X.base l → s.heap.FunFrames X.base l := by
    intro l
    induction l with
    | nil => intro _ _; trivial
    | cons env r ih =>
      intro hs hl
      obtain ⟨hk, ⟨L, o, hf, hn, ho, hd⟩, hr⟩ := hl
      have hL : L ∈ X.fs := hs L (by unfold frs; rw [List.filterMap_cons, hf]; exact List.mem_cons_self)
      obtain ⟨sl, e⟩ := I.base.slot L o ho (I.ok.frf L hL) hL fun z => I.ok.exfs L z hL
      exact ⟨hk, ⟨L, _, hf, hn, e, hd⟩, ih (fun b hb => hs b (by unfold frs; rw [List.filterMap_cons, hf]; exact List.mem_cons_of_mem _ hb)) hr⟩
  exact all X.outer (fun _ hb => hb) I.ok.funs


theorem Inv.stack (I : Inv X pins σ H s) : s.heap.FunFrames X.base X.stack := by
  rcases I.ok.stk with e | ⟨e, hf⟩
  · rw [e]; exact I.funs
  · rw [e]
    obtain ⟨m, hn, _⟩ := I.loc
    refine .cons (by rw [I.ok.kind]; decide) hf hn ?_ I.funs
    exact Heap.get?_none_of_le (Nat.le_trans I.ok.bsz I.ok.above)
theorem Inv.stkSub (I : Inv X pins σ H s) : ∀ b ∈ frs X.stack, b ∈ X.env.locals :: X.fs := fun b hb => by
  rcases I.ok.stk with e | ⟨e, hf⟩
  · rw [e] at hb; exact List.mem_cons_of_mem _ hb
  · rw [e] at hb
    unfold frs at hb
    rw [List.filterMap_cons, hf] at hb
    exact hb
theorem Inv.stkFree (I : Inv X pins σ H s) : ∀ b ∈ frs X.stack, H b = none := fun b hb => by
  rcases List.mem_cons.mp (I.stkSub b hb) with e | hb
  · rw [e]; exact I.free
  · obtain ⟨_, o, ho, _⟩ := I.ok.funs.mem hb
    exact I.base.free b o ho (I.ok.frf b hb) fun z => I.ok.exfs b z hb


theorem Inv.step {g' : Array GenState} {t' : Nat} {d' : Drawn} {ch : List Addr} (I : Inv X pins σ H s)
    (hch : ∀ b ∈ ch, (b ∈ X.ex ∨ X.s₀.heap.objs.size ≤ b) ∧ b ≠ X.env.locals ∧ (∀ x c, X.env.cells.lookup x = some c → c ≠ b) ∧ ∀ p ∈ X.pn ++ pins, p.1 ≠ b)
    (keep : ∀ b o, b ≠ X.env.locals → b ∉ X.fs → b ∉ ch → s.heap.get? b = some o → H b = none → h'.get? b = some o)
    (slot : ∀ b o, b ≠ X.env.locals → b ∈ X.fs → b ∉ ch → s.heap.get? b = some o → H b = none → ∃ sl, h'.get? b = some { o with slots := sl }) (free : ∀ b o, b ∉ ch → s.heap.get? b = some o → H b = none → H' b = none)
    (there : ∀ b o, b ∉ ch → s.heap.get? b = some o → ∃ o', h'.get? b = some o')
    (tups : ∀ b xs, H b = some (.tup xs) → H' b = some (.tup xs)) (frzs : ∀ b o u, H b = some (.frz o u) → H' b = some (.frz o u)) (tbls : ∀ b ps, H b = some (.tbl ps) → ∃ more, H' b = some (.tbl (ps ++ more)))
    (ns : ∀ m, s.heap.Ns X.env.locals m → h'.Ns X.env.locals m) (hok : HOk X.prog X.w H' h') (hg : AllBare g') :
    Inv X pins σ H' { s with heap := h', gens := g', drawn := d', toks := t' } := by
  have neL : ∀ b o, X.s₀.heap.get? b = some o → b ≠ X.env.locals := fun b o e => Nat.ne_of_lt (Nat.lt_of_lt_of_le (Heap.lt_size e) I.ok.above)
  have neC : ∀ b o, X.s₀.heap.get? b = some o → b ∉ X.ex → b ∉ ch := fun b o e hx hb => by
    rcases (hch b hb).1 with z | z
    · exact hx z
    · exact absurd (Nat.lt_of_lt_of_le (Heap.lt_size e) z) (Nat.lt_irrefl _)
  have cellK : ∀ x c, X.env.cells.lookup x = some c → ∀ v, s.heap.IsCell c v → h'.IsCell c v := fun x c e v ⟨o, ho, hd⟩ => by
    have nch : c ∉ ch := fun z => (hch c z).2.2.1 x c e rfl
    by_cases hc : c ∈ X.fs
    · obtain ⟨sl, q⟩ := slot c o (I.cne x c e) hc nch ho (I.freeC x c e)
      exact ⟨_, q, hd⟩
    · exact ⟨o, keep c o (I.cne x c e) hc nch ho (I.freeC x c e), hd⟩
  refine ⟨I.ok, I.os, hg, ⟨fun b o e n hb hx => ?_, fun b o e n hb hx => ?_, fun b o e n hx => ?_, fun b o e hx => ?_, fun b xs e => tups b xs (I.base.tups b xs e), fun b o xs e => frzs b o xs (I.base.frzs b o xs e), fun b ps e => ?_⟩, ?_, fun x c e => ?_, ?_, fun x c e => ?_, fun p hp => ?_, hok, I.len⟩
  · exact keep b o (neL b o e) hb (neC b o e hx) (I.base.keep b o e n hb hx) (I.base.free b o e n hx)
  · obtain ⟨sl, e1⟩ := I.base.slot b o e n hb hx
    obtain ⟨sl', e2⟩ := slot b _ (neL b o e) hb (neC b o e hx) e1 (I.base.free b o e n hx)
    exact ⟨sl', e2⟩
  · obtain ⟨o', e1⟩ := I.base.there b o e hx
    exact free b o' (neC b o e hx) e1 (I.base.free b o e n hx)
  · obtain ⟨o', e1⟩ := I.base.there b o e hx
    exact there b o' (neC b o e hx) e1
  · obtain ⟨m1, e1⟩ := I.base.tbls b ps e
    obtain ⟨m2, e2⟩ := tbls b _ e1
    exact ⟨m1 ++ m2, by rw [e2, Array.append_assoc]⟩
  · obtain ⟨m, hn, hl⟩ := I.loc
    refine ⟨m, ns m hn, fun i x v e1 e2 e3 => ?_⟩
    obtain ⟨u, r, l⟩ := hl i x v e1 e2 e3
    refine ⟨u, r, ?_⟩
    rcases l with l | ⟨k, c, e, z⟩
    · exact .inl l
    · exact .inr ⟨k, c, e, cellK x c e _ z⟩
  · obtain ⟨v, z⟩ := I.cell x c e
    exact ⟨v, cellK x c e v z⟩
  · obtain ⟨m, ⟨o, _, _, ho, _⟩, _⟩ := I.loc
    exact free _ o (fun z => (hch _ z).2.1 rfl) ho I.free
  · obtain ⟨v, o, ho, hd⟩ := I.cell x c e
    exact free c o (fun z => (hch c z).2.2.1 x c e rfl) ho (I.freeC x c e)
  · obtain ⟨e, n, ne, nf, d⟩ := I.pin p hp
    have nch : p.1 ∉ ch := fun z => (hch p.1 z).2.2.2 p hp rfl
    exact ⟨keep p.1 p.2 ne nf nch e n, free p.1 p.2 nch e n, ne, nf, d⟩

theorem Inv.un {t' : Nat} (I : Inv X pins σ H s) (u : Un X.fs [] H H' s.heap h') (hok : HOk X.prog X.w H' h') : Inv X pins σ H' { s with heap := h', toks := t' } := by
  obtain ⟨m, ⟨o, es, ep, ho, r⟩, _⟩ := id I.loc
  obtain ⟨sl, hL⟩ := u.any ho I.free (by simp)
  exact I.step (g' := s.gens) (d' := s.drawn) (ch := []) (fun _ z => nomatch z) (fun b o _ hb _ e n => u.keep b o e n hb (by simp)) (fun b o _ hb _ e n => u.slot b o e n hb (by simp)) (fun b o _ e n => u.free b o e n (by simp)) (fun b o _ e => u.there b o e (by simp)) u.tups u.frzs u.tbls (fun m' hm => by
    obtain ⟨o', es', ep', ho', r'⟩ := hm
    rw [ho] at ho'; cases ho'
    exact ⟨_, es', ep', hL, r'⟩) hok I.bare

theorem Inv.call {g' : Array GenState} {t' : Nat} {d' : Drawn} {ch : List Addr} (I : Inv X pins σ H s) (u : Un (frs X.stack) ch H H' s.heap h') (hok : HOk X.prog X.w H' h') (hg : AllBare g')
    (hch : ∀ b ∈ ch, (b ∈ X.ex ∨ X.s₀.heap.objs.size ≤ b) ∧ b ≠ X.env.locals ∧ (∀ x c, X.env.cells.lookup x = some c → c ≠ b) ∧ ∀ p ∈ X.pn ++ pins, p.1 ≠ b) :
    Inv X pins σ H' { s with heap := h', gens := g', drawn := d', toks := t' } := by
  obtain ⟨m, ⟨o, es, ep, ho, r⟩, _⟩ := id I.loc
  obtain ⟨sl, hL⟩ := u.any ho I.free fun z => (hch _ z).2.1 rfl
  exact I.step (ch := ch) hch (fun b o hL hb hc e n => u.keep b o e n (fun z => (List.mem_cons.mp (I.stkSub b z)).elim hL hb) hc) (fun b o _ _ hc e n => u.any e n hc) (fun b o hc e n => u.free b o e n hc) (fun b o hc e => u.there b o e hc) u.tups u.frzs u.tbls (fun m' hm => by
    obtain ⟨o', es', ep', ho', r'⟩ := hm
    rw [ho] at ho'; cases ho'
    exact ⟨_, es', ep', hL, r'⟩) hok hg

theorem Inv.turned {t' : Nat} {it : Addr} (I : Inv X pins σ H s) (k : ∀ b o, b ≠ it → s.heap.get? b = some o → h'.get? b = some o) (hn : H it = none) (hL : it ≠ X.env.locals)
    (h1 : it ∈ X.ex ∨ X.s₀.heap.objs.size ≤ it) (h2 : ∀ x c, X.env.cells.lookup x = some c → c ≠ it) (h3 : ∀ p ∈ X.pn ++ pins, p.1 ≠ it) : Inv X pins σ H { s with heap := h', toks := t' } := by
  have nit : ∀ b u, H b = some u → b ≠ it := fun b u e z => by rw [z, hn] at e; cases e
  refine I.step (g' := s.gens) (d' := s.drawn) (ch := [it]) (fun b hb => ?_) (fun b o _ _ hc e _ => k b o (fun z => hc (by simp [z])) e) (fun b o _ _ hc e _ => ⟨o.slots, k b o (fun z => hc (by simp [z])) e⟩) (fun _ _ _ _ n => n)
    (fun b o hc e => ⟨o, k b o (fun z => hc (by simp [z])) e⟩) (fun _ _ e => e) (fun _ _ _ e => e) (fun b ps e => ⟨#[], by rw [e]; simp⟩) (fun m hm => ?_) (fun b u e => ?_) I.bare
  · have e : b = it := by simpa using hb
    subst e
    exact ⟨h1, hL, h2, h3⟩
  · obtain ⟨o, es, ep, ho, r⟩ := hm
    exact ⟨o, es, ep, k _ o (Ne.symm hL) ho, r⟩
  · refine (I.hok b u e).stay (fun c v hc q => k c v ?_ q) (fun _ q => q) fun _ _ q => q
    rcases hc with z | z
    · rw [z]; exact nit b u e
    · exact nit c _ z
theorem Inv.tok (I : Inv X pins σ H s) (t : Nat) : Inv X pins σ H { s with toks := t } := I.un (h' := s.heap) (t' := t) Un.refl I.hok

theorem Inv.kept {t' : Nat} (I : Inv X pins σ H s) (k : ∀ b u, s.heap.get? b = some u → h'.get? b = some u) : Inv X pins σ H { s with heap := h', toks := t' } := I.un (Un.kept k) (I.hok.kept k)

theorem Inv.laid {a : Addr} {o : HO} {t' : Nat} (I : Inv X pins σ H s) (k : ∀ b u, s.heap.get? b = some u → h'.get? b = some u) (hp : s.heap.objs.size ≤ a) (new : ObjOk X.prog X.w (upd H a o) h' a o) :
    Inv X pins σ (upd H a o) { s with heap := h', toks := t' } := I.un (Un.laid k hp (I.hok.fresh hp)) (I.hok.laid k hp new)

theorem Inv.write {x e : Addr} {o : HO} {t' : Nat} (I : Inv X pins σ H s) (mu : Mut (H x)) (he : e = x ∨ H e = some (.own x)) (k : ∀ b u, b ≠ e → s.heap.get? b = some u → h'.get? b = some u) (heo : ∃ u, h'.get? e = some u)
    (new : ObjOk X.prog X.w (upd H x o) h' x o) : Inv X pins σ (upd H x o) { s with heap := h', toks := t' } := I.un (Un.write mu he k heo) (I.hok.write mu he k heo new)

theorem Inv.pins_of {pins' : List (Addr × Obj)} (I : Inv X pins σ H s) (h : ∀ p ∈ pins', s.heap.get? p.1 = some p.2 ∧ H p.1 = none ∧ p.1 ≠ X.env.locals ∧ p.1 ∉ X.fs ∧ ∀ v, p.2.data ≠ .cell v) : Inv X pins' σ H s :=
  ⟨I.ok, I.os, I.bare, I.base, I.loc, I.cell, I.free, I.freeC, fun p hp => (List.mem_append.mp hp).elim (fun z => I.pin p (List.mem_append_left _ z)) (h p), I.hok, I.len⟩

theorem nodup_ix {N : List Str} (hN : N.Nodup) {i j : Nat} {x : Str} (a : N[i]? = some x) (b : N[j]? = some x) : i = j := by
  obtain ⟨h1, e1⟩ := List.getElem?_eq_some_iff.mp a
  obtain ⟨h2, e2⟩ := List.getElem?_eq_some_iff.mp b
  exact (List.getElem_inj hN).mp (e1.trans e2.symm)


theorem store_ok2 {M : Model} {A : Around} {E : Value → Shared → Prop} {i : Nat} {x : Str} {v : V} {u : Value} {Q : Unit → Shared → Prop} (I : Inv X pins σ H s) (hN : X.N.Nodup) (hi : X.N[i]? = some x) (hx : Loc X.env.scope x) (r : RelV v u)
    (h : ∀ s', Inv X pins (σ.set i (some v)) H s' → (∃ a, Heap.SameBut a s.heap s'.heap ∧ (a = X.env.locals ∨ X.env.cells.lookup x = some a)) → Q () s') (hf : X.fn x = true ∨ X.env.scope.names.lookup x = some .local := by first | exact .inl rfl | exact .inr rfl | assumption) : wpAny M A (storeName X.env x u) Q E s := by
  obtain ⟨m, hn, hl⟩ := id I.loc
  have hcls : (X.env.scope.kind == .class || (X.env.scope.kind == .module && X.env.locals != X.env.globals)) = false := by rw [I.ok.kind]; rfl
  have hiσ : i < σ.length := by rw [I.len]; exact (List.getElem?_eq_some_iff.mp hi).1
  have cne := I.cne
  have tracked : ∀ {a : Addr} {h' : Heap}, (∃ o, s.heap.get? a = some o ∧ H a = none) → Heap.SameBut a s.heap h' → HOk X.prog X.w H h' := fun {a h'} ha hs b ob e => by
    obtain ⟨_, _, hfree⟩ := ha
    refine (I.hok b ob e).stay (fun c w' hc q => (hs.2 c ?_).trans q) (fun _ q => q) fun _ _ q => q
    rintro rfl
    rcases hc with rfl | hc
    · rw [hfree] at e; cases e
    · rw [hfree] at hc; cases hc
  rcases hx with hk | hk
  · refine wpAny_storeName_local hk hn (fun h' hn' hs => ?_) hcls
    obtain ⟨oL, _, _, hoL, _⟩ := id hn
    refine h _ ⟨I.ok, I.os, I.bare, ⟨fun b o e n hb hx => ?_, fun b o e n hb hx => ?_, I.base.free, fun b o e hx => ?_, I.base.tups, I.base.frzs, I.base.tbls⟩, ⟨_, hn', fun j y v' e1 e2 e3 => ?_⟩, fun y c e => ?_, I.free, I.freeC, fun p hp => ?_, tracked ⟨oL, hoL, I.free⟩ hs, by simpa using I.len⟩ ⟨_, hs, .inl rfl⟩
    · exact (hs.2 b (Nat.ne_of_lt (Nat.lt_of_lt_of_le (Heap.lt_size e) I.ok.above))).trans (I.base.keep b o e n hb hx)
    · obtain ⟨sl, e1⟩ := I.base.slot b o e n hb hx
      exact ⟨sl, (hs.2 b (Nat.ne_of_lt (Nat.lt_of_lt_of_le (Heap.lt_size e) I.ok.above))).trans e1⟩
    · obtain ⟨o', e1⟩ := I.base.there b o e hx
      exact ⟨o', (hs.2 b (Nat.ne_of_lt (Nat.lt_of_lt_of_le (Heap.lt_size e) I.ok.above))).trans e1⟩
    · by_cases hj : j = i
      · subst hj
        rw [hi] at e1; cases e1
        rw [List.getElem?_set_self hiσ] at e2
        cases e2
        exact ⟨u, r, .inl ⟨hk, by simp⟩⟩
      · rw [List.getElem?_set_ne (Ne.symm hj)] at e2
        obtain ⟨u', r', q⟩ := hl j y v' e1 e2 e3
        refine ⟨u', r', ?_⟩
        rcases q with ⟨k, e⟩ | ⟨k, c, e, z⟩
        · refine .inl ⟨k, ?_⟩
          have : y ≠ x := fun e => hj (nodup_ix hN e1 (e ▸ hi))
          simp [this, e]
        · exact .inr ⟨k, c, e, z.sameBut hs (cne y c e)⟩
    · obtain ⟨w', z⟩ := I.cell y c e
      exact ⟨w', z.sameBut hs (cne y c e)⟩
    · obtain ⟨e, n, ne, nf, d⟩ := I.pin p hp
      exact ⟨(hs.2 p.1 ne).trans e, n, ne, nf, d⟩
  · have hfn : X.fn x = true := by
      rcases hf with z | z
      · exact z
      · rw [z] at hk; cases hk
    obtain ⟨c, hc⟩ := I.ok.has x (.inl hk)
    obtain ⟨w', z⟩ := I.cell x c hc
    refine wpAny_storeName_cell I.ok.kind hk hc z (fun h' hc' hs => ?_)
    obtain ⟨oc, hoc, hocd⟩ := id z
    refine h { s with heap := h' } ⟨I.ok, I.os, I.bare, ⟨fun b o e n hb hx => ?_, fun b o e n hb hx => ?_, I.base.free, fun b o e hx => ?_, I.base.tups, I.base.frzs, I.base.tbls⟩, ⟨m, hn.sameBut hs (Ne.symm (cne x c hc)), fun j y v' e1 e2 e3 => ?_⟩, fun y c' e => ?_, I.free, I.freeC, fun p hp => ?_, tracked ⟨oc, hoc, I.freeC x c hc⟩ hs, by simpa using I.len⟩ ⟨c, hs, .inr hc⟩
    · exact (hs.2 b (Nat.ne_of_lt (Nat.lt_of_lt_of_le (Heap.lt_size e) (I.ok.cab x c hfn hc)))).trans (I.base.keep b o e n hb hx)
    · obtain ⟨sl, e1⟩ := I.base.slot b o e n hb hx
      exact ⟨sl, (hs.2 b (Nat.ne_of_lt (Nat.lt_of_lt_of_le (Heap.lt_size e) (I.ok.cab x c hfn hc)))).trans e1⟩
    · obtain ⟨o', e1⟩ := I.base.there b o e hx
      exact ⟨o', (hs.2 b (Nat.ne_of_lt (Nat.lt_of_lt_of_le (Heap.lt_size e) (I.ok.cab x c hfn hc)))).trans e1⟩
    · by_cases hj : j = i
      · subst hj
        rw [hi] at e1; cases e1
        rw [List.getElem?_set_self hiσ] at e2
        cases e2
        exact ⟨u, r, .inr ⟨.inl hk, c, hc, hc'⟩⟩
      · rw [List.getElem?_set_ne (Ne.symm hj)] at e2
        obtain ⟨u', r', q⟩ := hl j y v' e1 e2 e3
        refine ⟨u', r', ?_⟩
        rcases q with q | ⟨k, c', e, z'⟩
        · exact .inl q
        · refine .inr ⟨k, c', e, z'.sameBut hs ?_⟩
          rintro rfl
          exact hj (nodup_ix hN e1 (I.ok.inj _ _ _ e hc ▸ hi))
    · by_cases hcc : c' = c
      · subst hcc; exact ⟨_, hc'⟩
      · obtain ⟨w2, z2⟩ := I.cell y c' e
        exact ⟨w2, z2.sameBut hs hcc⟩
    · obtain ⟨e, n, ne, nf, d⟩ := I.pin p hp
      refine ⟨(hs.2 p.1 ?_).trans e, n, ne, nf, d⟩
      intro q
      rw [q, hoc] at e
      have q' : oc = p.2 := Option.some.inj e
      exact d w' (by rw [← q']; exact hocd)
theorem store_ok {M : Model} {A : Around} {E : Value → Shared → Prop} {i : Nat} {x : Str} {v : V} {u : Value} {Q : Unit → Shared → Prop} (I : Inv X pins σ H s) (hN : X.N.Nodup) (hi : X.N[i]? = some x) (hx : Loc X.env.scope x) (r : RelV v u)
    (h : ∀ s', Inv X pins (σ.set i (some v)) H s' → Q () s') (hf : X.fn x = true ∨ X.env.scope.names.lookup x = some .local := by first | exact .inl rfl | exact .inr rfl | assumption) : wpAny M A (storeName X.env x u) Q E s :=
  store_ok2 I hN hi hx r (fun s' I' _ => h s' I') hf

theorem Inv.call' {s' : Shared} {ch : List Addr} (I : Inv X pins σ H s) (ho : s'.os = s.os) (u : Un (frs X.stack) ch H H' s.heap s'.heap) (hok : HOk X.prog X.w H' s'.heap) (hg : AllBare s'.gens)
    (hch : ∀ b ∈ ch, (b ∈ X.ex ∨ X.s₀.heap.objs.size ≤ b) ∧ b ≠ X.env.locals ∧ (∀ x c, X.env.cells.lookup x = some c → c ≠ b) ∧ ∀ p ∈ X.pn ++ pins, p.1 ≠ b) : Inv X pins σ H' s' := by
  obtain ⟨h', g', d', t', o'⟩ := s'
  have e : o' = s.os := ho
  subst e
  exact I.call (g' := g') (t' := t') (d' := d') u hok hg hch
end



abbrev XK := Value → Option Addr → Hp → Prop
abbrev St := List (Option V)
abbrev VK := V → Hp → Prop

abbrev TE := St → Hp → VK → Prop
abbrev TT := St → Hp → (Bool → Hp → Prop) → Prop
abbrev TA := St → Hp → (List V → Hp → Prop) → Prop

structure Ends where
  nx : St → Hp → Prop
  rt : VK
  bk : St → Hp → Prop := fun _ _ => False
  ct : St → Hp → Prop := fun _ _ => False
abbrev TS := Ends → St → Hp → Prop

def EP (X : Cx) (pins : List (Addr × Obj)) (σ : St) (Q : VK) (u : Value) (s' : Shared) : Prop := ∃ v H', Inv X pins σ H' s' ∧ RelV v u ∧ Q v H'
def TP (X : Cx) (pins : List (Addr × Obj)) (σ : St) (Q : Bool → Hp → Prop) (b : Bool) (s' : Shared) : Prop := ∃ H', Inv X pins σ H' s' ∧ Q b H'
def AP (X : Cx) (pins : List (Addr × Obj)) (σ : St) (Q : List V → Hp → Prop) (us : List Value) (s' : Shared) : Prop := ∃ vs H', Inv X pins σ H' s' ∧ Vals vs us ∧ Q vs H'
def SP (X : Cx) (pins : List (Addr × Obj)) (D : Ends) (f : Flow) (s' : Shared) : Prop :=
  match f with
  | .next => ∃ σ' H', Inv X pins σ' H' s' ∧ D.nx σ' H'
  | .brk => ∃ σ' H', Inv X pins σ' H' s' ∧ D.bk σ' H'
  | .cont => ∃ σ' H', Inv X pins σ' H' s' ∧ D.ct σ' H'
  | .ret u => ∃ v σ' H', Inv X pins σ' H' s' ∧ RelV v u ∧ D.rt v H'

def PE (X : Cx) (e : Expr) (t : TE) : Prop :=
  ∀ (pins : List (Addr × Obj)) (s : Shared) (σ : St) (H : Hp) (Q : VK), Inv X pins σ H s → t σ H Q → wpAny (model X.prog X.w) X.A (eval e X.env) (EP X pins σ Q) X.xe s
def PT (X : Cx) (e : Expr) (t : TT) : Prop :=
  ∀ (pins : List (Addr × Obj)) (s : Shared) (σ : St) (H : Hp) (Q : Bool → Hp → Prop), Inv X pins σ H s → t σ H Q → wpAny (model X.prog X.w) X.A (isTrue e X.env (eval e X.env)) (TP X pins σ Q) X.xe s

def PW (X : Cx) (e : Expr) (t : TT) : Prop :=
  ∀ (whole : Sem Value) (pins : List (Addr × Obj)) (s : Shared) (σ : St) (H : Hp) (Q : Bool → Hp → Prop), Inv X pins σ H s → t σ H Q → wpAny (model X.prog X.w) X.A (isTrue e X.env whole) (TP X pins σ Q) X.xe s
theorem PW.pt {X : Cx} {e : Expr} {t : TT} (h : PW X e t) : PT X e t := h _

def PA (X : Cx) (es : List Expr) (t : TA) : Prop :=
  ∀ (pos : Pos) (pins : List (Addr × Obj)) (s : Shared) (σ : St) (H : Hp) (Q : List V → Hp → Prop), Inv X pins σ H s → t σ H Q → wpAny (model X.prog X.w) X.A (spliced (backTo pos (starEach es X.env))) (AP X pins σ Q) X.xe s
def PS (X : Cx) (st : Stmt) (t : TS) : Prop :=
  ∀ (pins : List (Addr × Obj)) (s : Shared) (σ : St) (H : Hp) (D : Ends), Inv X pins σ H s → t D σ H → wpAny (model X.prog X.w) X.A (exec st X.env) (SP X pins D) X.xe s
def PSs (X : Cx) (st : List Stmt) (t : TS) : Prop :=
  ∀ (pins : List (Addr × Obj)) (s : Shared) (σ : St) (H : Hp) (D : Ends), Inv X pins σ H s → t D σ H → wpAny (model X.prog X.w) X.A (execs st X.env) (SP X pins D) X.xe s

theorem thn {α : Type} {t : Sem α} {Q Q' : α → Shared → Prop} {M : Model} {A : Around} {E : Value → Shared → Prop} {s : Shared} (h : wpAny M A t Q E s) (hQ : ∀ a s, Q a s → Q' a s) : wpAny M A t Q' E s := wpAny_mono h hQ fun _ _ x => x
end L2

namespace L2
open PySem PySem.Spec PyProof.Rows
section
variable {X : Cx}


def tVar (i : Nat) : TE := fun σ H Q => ∃ v, σ[i]? = some (some v) ∧ Q v H
def tC (v : V) : TE := fun _ H Q => Q v H
theorem pe_var {i : Nat} {x : Str} {pos : Pos} (hN : X.N[i]? = some x) (hv : Vis X.env.scope x) (hd : (x == ("__debug__" : Str)) = false := by decide) (hcd : (x == ("__classdict__" : Str)) = false := by decide) : PE X (.Name x pos) (tVar i) := by
  intro pins s σ H Q I h
  obtain ⟨v, e, h⟩ := h
  obtain ⟨m, hn, hl⟩ := I.loc
  obtain ⟨u, r, l⟩ := hl i x v hN e hv
  have fin : EP X pins σ Q u s := ⟨v, H, I, r, h⟩
  rcases l with ⟨hk, hm⟩ | ⟨hk, c, hc, hcell⟩
  · exact wpAny_Name (wpAny_loadName_local I.ok.kind hk hn hm fin) hd
  · rcases hk with hk | hk
    · exact wpAny_Name (wpAny_loadName_cell I.ok.kind hk hc hcell fin) hd
    · exact wpAny_Name (wpAny_loadName_free I.ok.kind hk hc hcell fin hcd) hd
theorem pe_int {i j pos} : PE X (.Constant (.int i) j pos) (tC (.int i)) := fun _ _ _ H _ I h => wpAny_Constant_int ⟨.int i, H, I.tok _, ⟨_, rfl⟩, h⟩
theorem pe_bl {b j pos} : PE X (.Constant (.bool b) j pos) (tC (.bl b)) := fun _ _ _ H _ I h => Constant_bool ⟨.bl b, H, I, rfl, h⟩
theorem pe_non {j pos} : PE X (.Constant .none j pos) (tC .non) := fun _ _ _ H _ I h => Constant_none ⟨.non, H, I, rfl, h⟩
theorem pe_str {x j pos} : PE X (.Constant (.str x) j pos) (tC (.str x)) := fun _ _ _ H _ I h => Calls.Constant_str ⟨.str x, H, I.tok _, ⟨_, rfl⟩, h⟩


def Gl (X : Cx) (x : Str) : Prop := X.env.kindOf x = some .globalImplicit
theorem ld_glob {E : Value → Shared → Prop} {pins : List (Addr × Obj)} {s : Shared} {σ : St} {H : Hp} {x : Str} {u : Value} {pos : Pos} {Q : Value → Shared → Prop} (I : Inv X pins σ H s) (hg : Gl X x) (hm : X.mg x = some u) (h : Q u s)
    (hd : (x == ("__debug__" : Str)) = false := by decide) : wpAny (model X.prog X.w) X.A (eval (.Name x pos) X.env) Q E s :=
  Calls.Name_function_global I.ok.kind hg (Calls.loadGlobal_global (by rw [I.ok.glob]; exact I.mod.glob.keeps I.bk) hm h) hd
theorem ld_blt {E : Value → Shared → Prop} {pins : List (Addr × Obj)} {s : Shared} {σ : St} {H : Hp} {x : Str} {u : Value} {pos : Pos} {Q : Value → Shared → Prop} (I : Inv X pins σ H s) (hg : Gl X x) (hm : X.mg x = none) (hv : bootBuiltins x = some u) (h : Q u s)
    (hn : x ≠ "__name__" := by decide) (hd : (x == ("__debug__" : Str)) = false := by decide) : wpAny (model X.prog X.w) X.A (eval (.Name x pos) X.env) Q E s := by
  obtain ⟨mb, h1, h2⟩ := I.mod.blt
  exact Calls.Name_function_global I.ok.kind hg (Calls.loadGlobal_builtin (by rw [I.ok.glob]; exact I.mod.glob.keeps I.bk) hm (by rw [I.ok.blt]; exact h1.keeps I.bk) ((h2 x hn).trans hv) h) hd

theorem pe_glob {x : Str} {v : V} {u : Value} {pos : Pos} (hg : Gl X x) (hm : X.mg x = some u) (r : RelV v u) (hd : (x == ("__debug__" : Str)) = false := by decide) : PE X (.Name x pos) (tC v) :=
  fun _ _ _ H _ I h => ld_glob I hg hm ⟨v, H, I, r, h⟩ hd
theorem pe_bltn {x : Str} {v : V} {u : Value} {pos : Pos} (hg : Gl X x) (hm : X.mg x = none) (hv : bootBuiltins x = some u) (r : RelV v u) (hn : x ≠ "__name__" := by decide) (hd : (x == ("__debug__" : Str)) = false := by decide) : PE X (.Name x pos) (tC v) :=
  fun _ _ _ H _ I h => ld_blt I hg hm hv ⟨v, H, I, r, h⟩ hn hd



variable {a b : Expr} {ta tb : TE} {pos : Pos}
def PC (X : Cx) (op : CmpOp) (a b : Expr) (t : TE) : Prop :=
  ∀ (pins : List (Addr × Obj)) (s : Shared) (σ : St) (H : Hp) (Q : VK), Inv X pins σ H s → t σ H Q →
    wpAny (model X.prog X.w) X.A (eval a X.env) (fun v s₁ => wpAny (model X.prog X.w) X.A (eval b X.env) (fun u s₂ => wpAny (model X.prog X.w) X.A (compareOp op v u) (EP X pins σ Q) X.xe s₂) X.xe s₁) X.xe s
theorem nobehind (b : Expr) {op : CmpOp} (h : op ≠ .In) (h2 : op ≠ .NotIn) : behindInMarks op b = false := by
  have e1 : (op == CmpOp.In) = false := by cases op <;> first | rfl | exact absurd rfl h
  have e2 : (op == CmpOp.NotIn) = false := by cases op <;> first | rfl | exact absurd rfl h2
  cases b <;> simp [behindInMarks, e1, e2]
def tB (t : TE) : TT := fun σ H Q => t σ H fun x H1 => ∃ c, x = .bl c ∧ Q c H1
theorem pe_cmp {op : CmpOp} {t : TE} (h : PC X op a b t) (h1 : behindInMarks op b = false := by first | exact nobehind _ (by decide) (by decide) | rfl) : PE X (.Compare a [op] [b] pos) t := fun pins s σ H Q I hw => wpAny_Compare1 (h pins s σ H Q I hw) h1
theorem pt_cmp {op : CmpOp} {t : TE} (h : PC X op a b t) (h1 : behindInMarks op b = false := by first | exact nobehind _ (by decide) (by decide) | rfl) : PT X (.Compare a [op] [b] pos) (tB t) := by
  intro pins s σ H Q I hw
  refine wpAny_isTrue_Compare1 (thn (h pins s σ H _ I hw) fun v s1 h1 => thn h1 fun u s2 h2 => thn h2 fun c s3 ⟨x, H1, I1, r1, q1⟩ => ?_) h1
  obtain ⟨d, rfl, q⟩ := q1
  cases r1
  exact wpAny_truthy_bool ⟨H1, I1, q⟩

theorem pt_val {e : Expr} {t : TE} (h : PE X e t) (he : ∀ whole, isTrue e X.env whole = (do let v ← whole; standAt e.pos; holding [v] (truthy v)) := by intro _; rfl) : PT X e (tB t) := by
  intro pins s σ H Q I hw
  refine isTrue_plain (thn (h pins s σ H _ I hw) fun v s1 ⟨x, H1, I1, r1, q1⟩ => ?_) (he _)
  obtain ⟨d, rfl, q⟩ := q1
  cases r1
  exact wpAny_truthy_bool ⟨H1, I1, q⟩


variable {tA tB' : TT} {rest : List Expr}
def tAnd (t u : TT) : TT := fun σ H Q => t σ H fun c H1 => if c = true then u σ H1 Q else Q false H1
def tOr (t u : TT) : TT := fun σ H Q => t σ H fun c H1 => if c = true then Q true H1 else u σ H1 Q
def tNot (t : TT) : TT := fun σ H Q => t σ H fun c H1 => Q (!c) H1
theorem pw_and1 (ha : PT X a tA) : PW X (.BoolOp .And [a] pos) tA := by
  intro wh pins s σ H Q I h
  refine isTrue_and (thn (ha pins s σ H Q I h) fun c s1 e => ?_)
  cases c with
  | true => exact isTrue_and_nil e
  | false => exact e
theorem pw_or1 (ha : PT X a tA) : PW X (.BoolOp .Or [a] pos) tA := by
  intro wh pins s σ H Q I h
  refine isTrue_or (thn (ha pins s σ H Q I h) fun c s1 e => ?_)
  cases c with
  | false => exact isTrue_or_nil e
  | true => exact e
theorem pw_and (ha : PT X a tA) (hb : PW X (.BoolOp .And (b :: rest) pos) tB') : PW X (.BoolOp .And (a :: b :: rest) pos) (tAnd tA tB') := by
  intro wh pins s σ H Q I h
  refine isTrue_and (thn (ha pins s σ H _ I h) fun c s1 ⟨H1, I1, q1⟩ => ?_)
  cases c with
  | true => exact hb wh pins s1 σ H1 Q I1 q1
  | false => exact ⟨H1, I1, q1⟩
theorem pw_or (ha : PT X a tA) (hb : PW X (.BoolOp .Or (b :: rest) pos) tB') : PW X (.BoolOp .Or (a :: b :: rest) pos) (tOr tA tB') := by
  intro wh pins s σ H Q I h
  refine isTrue_or (thn (ha pins s σ H _ I h) fun c s1 ⟨H1, I1, q1⟩ => ?_)
  cases c with
  | true => exact ⟨H1, I1, q1⟩
  | false => exact hb wh pins s1 σ H1 Q I1 q1
theorem pt_not (ha : PT X a tA) : PT X (.UnaryOp .Not a pos) (tNot tA) := by
  intro pins s σ H Q I h
  exact isTrue_not (ha pins s σ H (fun c H1 => Q (!c) H1) I h)

def tAndV (ta tb : TE) : TE := fun σ H Q => ta σ H fun x H1 => ∃ c, x = .bl c ∧ if c = true then tb σ H1 Q else Q (.bl false) H1
def tOrV (ta tb : TE) : TE := fun σ H Q => ta σ H fun x H1 => ∃ c, x = .bl c ∧ if c = true then Q (.bl true) H1 else tb σ H1 Q
def tNotV (ta : TE) : TE := fun σ H Q => ta σ H fun x H1 => ∃ c, x = .bl c ∧ Q (.bl (!c)) H1
theorem pe_one {op} {t : TE} (h : PE X a t) : PE X (.BoolOp op [a] pos) t := fun pins s σ H Q I hw => BoolOp_one (h pins s σ H Q I hw)
theorem pe_and (ha : PE X a ta) (hb : PE X (.BoolOp .And (b :: rest) pos) tb) : PE X (.BoolOp .And (a :: b :: rest) pos) (tAndV ta tb) := by
  intro pins s σ H Q I h
  refine BoolOp_and (thn (ha pins s σ H _ I h) fun v s1 ⟨x, H1, I1, r1, q1⟩ => ?_)
  obtain ⟨c, rfl, q1⟩ := q1
  cases r1
  refine wpAny_truthy_bool ?_
  cases c with
  | true => exact hb pins s1 σ H1 Q I1 q1
  | false => exact ⟨.bl false, H1, I1, rfl, q1⟩
theorem pe_or (ha : PE X a ta) (hb : PE X (.BoolOp .Or (b :: rest) pos) tb) : PE X (.BoolOp .Or (a :: b :: rest) pos) (tOrV ta tb) := by
  intro pins s σ H Q I h
  refine BoolOp_or (thn (ha pins s σ H _ I h) fun v s1 ⟨x, H1, I1, r1, q1⟩ => ?_)
  obtain ⟨c, rfl, q1⟩ := q1
  cases r1
  refine wpAny_truthy_bool ?_
  cases c with
  | false => exact hb pins s1 σ H1 Q I1 q1
  | true => exact ⟨.bl true, H1, I1, rfl, q1⟩
theorem pe_not (ha : PE X a ta) : PE X (.UnaryOp .Not a pos) (tNotV ta) := by
  intro pins s σ H Q I h
  refine UnaryOp_ (thn (ha pins s σ H _ I h) fun v s1 ⟨x, H1, I1, r1, q1⟩ => ?_)
  obtain ⟨c, rfl, q1⟩ := q1
  cases r1
  exact not_of (wpAny_truthy_bool ⟨.bl (!c), H1, I1, rfl, q1⟩)

end
end L2

namespace L2
open PySem PySem.Spec PyProof.Rows


def SqL (K : PySem.W.Frag) (H : Hp) (a : Addr) (xs : List V) : Prop :=
  Rd H a (.lst xs) ∨
    ∃ (o : Obj) (its : Array Value) (n : Nat), K.lookup a = some o ∧ o.cls = .type "list" ∧ o.dict = none ∧ o.data = .seq its n ∧ its.size ≤ sizeLine ∧ Vals xs its.toList
def SqT (K : PySem.W.Frag) (H : Hp) (a : Addr) (xs : List V) : Prop :=
  Rd H a (.tup xs) ∨
    ∃ (o : Obj) (its : Array Value) (n : Nat), K.lookup a = some o ∧ o.cls = .type "tuple" ∧ o.data = .seq its n ∧ its.size ≤ sizeLine ∧ Vals xs its.toList
def absV : Value → Option V
  | .none => some .non
  | .bool b => some (.bl b)
  | .int i _ => some (.int i)
  | .str x _ => some (.str x)
  | .bytes b _ => some (.byt b)
  | .float b _ => some (.flt b)
  | .ref a => some (.ref a)
  | .type n => some (.ty n)
  | _ => none
theorem RelV.abs {x : V} {u : Value} (r : RelV x u) : absV u = some x := by
  cases x with
  | non => cases r; rfl
  | bl _ => cases r; rfl
  | int _ => obtain ⟨t, rfl⟩ := r; rfl
  | str _ => obtain ⟨t, rfl⟩ := r; rfl
  | byt _ => obtain ⟨t, rfl⟩ := r; rfl
  | flt _ => obtain ⟨t, rfl⟩ := r; rfl
  | ref _ => cases r; rfl
  | ty _ => cases r; rfl
theorem RelV.inj {x y : V} {u : Value} (r : RelV x u) (q : RelV y u) : x = y := Option.some.inj (r.abs.symm.trans q.abs)
theorem Vals.inj : ∀ {xs ys : List V} {us : List Value}, Vals xs us → Vals ys us → xs = ys
  | _, _, _, .nil, .nil => rfl
  | _, _, _, .cons r t, .cons r' t' => by rw [r.inj r', Vals.inj t t']
section
variable {X : Cx} {pins : List (Addr × Obj)} {σ : St} {H : Hp} {s : Shared} {a : Addr} {xs ys : List V}
theorem SqL.of {K : PySem.W.Frag} (h : H a = some (.lst xs)) : SqL K H a xs := .inl (.inl h)
theorem SqT.of {K : PySem.W.Frag} (h : H a = some (.tup xs)) : SqT K H a xs := .inl (.inl h)
theorem Inv.list (I : Inv X pins σ H s) (h : SqL X.K H a xs) : ∃ its : List Value, Vals xs its ∧ PlainL s.heap a its.toArray ∧ xs.length ≤ sizeLine := by
  rcases h with h | ⟨o, its, n, hk, hc, hd, hs, hz, r⟩
  · obtain ⟨z, its, n, r, e⟩ := h.ok I.hok
    exact ⟨its, r, ⟨_, n, e, rfl, rfl, rfl⟩, z⟩
  · refine ⟨its.toList, r, ⟨o, n, I.kIn a o hk, hc, hd, by simpa using hs⟩, ?_⟩
    have e := r.length
    simp only [Array.length_toList] at e
    omega
theorem Inv.tuple (I : Inv X pins σ H s) (h : SqT X.K H a xs) : ∃ its : List Value, Vals xs its ∧ IsTup s.heap a its.toArray ∧ xs.length ≤ sizeLine := by
  rcases h with h | ⟨o, its, n, hk, hc, hs, hz, r⟩
  · obtain ⟨z, its, r, p⟩ := h.ok I.hok
    exact ⟨its, r, p, z⟩
  · refine ⟨its.toList, r, ⟨o, I.kIn a o hk, hc, n, by simpa using hs⟩, ?_⟩
    have e := r.length
    simp only [Array.length_toList] at e
    omega
theorem Inv.list_inj (I : Inv X pins σ H s) (h : SqL X.K H a xs) (h' : SqL X.K H a ys) : xs = ys := by
  obtain ⟨its, r, ⟨o, n, e, _, _, d⟩, _⟩ := I.list h
  obtain ⟨its', r', ⟨o', n', e', _, _, d'⟩, _⟩ := I.list h'
  rw [e] at e'; cases e'
  rw [d] at d'
  injection d' with d1 _
  have : its = its' := by simpa using congrArg Array.toList d1
  subst this
  exact r.inj r'
theorem Inv.tuple_inj (I : Inv X pins σ H s) (h : SqT X.K H a xs) (h' : SqT X.K H a ys) : xs = ys := by
  obtain ⟨its, r, ⟨o, e, _, n, d⟩, _⟩ := I.tuple h
  obtain ⟨its', r', ⟨o', e', _, n', d'⟩, _⟩ := I.tuple h'
  rw [e] at e'; cases e'
  rw [d] at d'
  injection d' with d1 _
  have : its = its' := by simpa using congrArg Array.toList d1
  subst this
  exact r.inj r'
end


abbrev Cx.wish (X : Cx) (E : Value → Shared → Prop) : Cx := { X with xe := E }

abbrev Cx.nox (X : Cx) : Cx := X.wish fun _ _ => False
theorem Cx.Ok.wish {X : Cx} (ok : X.Ok) (E : Value → Shared → Prop) : (X.wish E).Ok :=
  ⟨ok.mod, ok.kind, ok.glob, ok.blt, ok.above, ok.inj, ok.has, ok.cab, ok.hd, ok.frames, ok.stk, ok.exf, ok.bs, ok.bsz, ok.noex, ok.exfs, ok.funs, ok.frf⟩
theorem Cx.Ok.unwish {X : Cx} {E : Value → Shared → Prop} (ok : (X.wish E).Ok) : X.Ok :=
  ⟨ok.mod, ok.kind, ok.glob, ok.blt, ok.above, ok.inj, ok.has, ok.cab, ok.hd, ok.frames, ok.stk, ok.exf, ok.bs, ok.bsz, ok.noex, ok.exfs, ok.funs, ok.frf⟩
section
variable {X : Cx} {pins : List (Addr × Obj)} {σ : St} {H : Hp} {s : Shared} {E : Value → Shared → Prop}
theorem Inv.wish (I : Inv X pins σ H s) (E : Value → Shared → Prop) : Inv (X.wish E) pins σ H s := ⟨I.ok.wish E, I.os, I.bare, I.base, I.loc, I.cell, I.free, I.freeC, I.pin, I.hok, I.len⟩
theorem Inv.unwish (I : Inv (X.wish E) pins σ H s) : Inv X pins σ H s := ⟨I.ok.unwish, I.os, I.bare, I.base, I.loc, I.cell, I.free, I.freeC, I.pin, I.hok, I.len⟩
theorem SP.unwish {D : Ends} {f : Flow} {s' : Shared} (h : SP (X.wish E) pins D f s') : SP X pins D f s' := by
  cases f with
  | next => obtain ⟨σ', H', I, q⟩ := h; exact ⟨σ', H', I.unwish, q⟩
  | brk => obtain ⟨σ', H', I, q⟩ := h; exact ⟨σ', H', I.unwish, q⟩
  | cont => obtain ⟨σ', H', I, q⟩ := h; exact ⟨σ', H', I.unwish, q⟩
  | ret u => obtain ⟨v, σ', H', I, r, q⟩ := h; exact ⟨v, σ', H', I.unwish, r, q⟩
theorem PE.nox {e : Expr} {t : TE} (h : PE X.nox e t) : PE X e t := fun pins s σ H Q I hw =>
  wpAny_mono (h pins s σ H Q (I.wish _) hw) (fun _ _ ⟨v, H', I', r, q⟩ => ⟨v, H', I'.unwish, r, q⟩) fun _ _ z => False.elim z
theorem PT.nox {e : Expr} {t : TT} (h : PT X.nox e t) : PT X e t := fun pins s σ H Q I hw =>
  wpAny_mono (h pins s σ H Q (I.wish _) hw) (fun _ _ ⟨H', I', q⟩ => ⟨H', I'.unwish, q⟩) fun _ _ z => False.elim z
theorem PSs.nox {st : List Stmt} {t : TS} (h : PSs X.nox st t) : PSs X st t := fun pins s σ H D I hw =>
  wpAny_mono (h pins s σ H D (I.wish _) hw) (fun _ _ q => q.unwish) fun _ _ z => False.elim z
end


section
variable {X : Cx} {st : Stmt} {rest : List Stmt} {t u : TS} {e : Expr} {te : TE} {pos : Pos}
def tNext : TS := fun D σ H => D.nx σ H
def tSeq (t u : TS) : TS := fun D σ H => t { D with nx := u D } σ H
theorem pss_nil : PSs X [] tNext := fun _ _ σ H _ I h => wpAny_execs_nil ⟨σ, H, I, h⟩
theorem pss_cons (h1 : PS X st t) (h2 : PSs X rest u) : PSs X (st :: rest) (tSeq t u) := by
  intro pins s σ H D I h
  refine wpAny_execs_cons (thn (h1 pins s σ H { D with nx := u D } I h) fun f s1 q => ?_)
  cases f with
  | next =>
    obtain ⟨σ', H', I', q⟩ := q
    exact h2 pins s1 σ' H' D I' q
  | ret v => exact q
  | brk => exact q
  | cont => exact q
theorem pss_one (h1 : PS X st t) : PSs X [st] t := by
  intro pins s σ H D I h
  refine wpAny_execs_cons (thn (h1 pins s σ H D I h) fun f s1 q => ?_)
  cases f with
  | next => exact wpAny_execs_nil q
  | ret v => exact q
  | brk => exact q
  | cont => exact q
theorem Inv.quiet {pins : List (Addr × Obj)} {σ : St} {H : Hp} {s : Shared} (I : Inv X pins σ H s) : interactive X.env = false := by simp [interactive, I.ok.kind]

def tDrop (te : TE) : TS := fun D σ H => te σ H fun _ H1 => D.nx σ H1
theorem ps_expr (he : PE X e te) (hs : swapsWith e none pos.line X.env = pure false := by rfl) : PS X (.Expr e pos) (tDrop te) := by
  intro pins s σ H D I h
  exact wpAny_Expr_any (thn (he pins s σ H _ I h) fun v s1 ⟨x, H1, I1, r1, q1⟩ => ⟨σ, H1, I1, q1⟩) I.quiet hs
def tRet (te : TE) : TS := fun D σ H => te σ H D.rt
theorem ps_ret (he : PE X e te) : PS X (.Return (some e) pos) (tRet te) := by
  intro pins s σ H D I h
  exact wpAny_Return_some (thn (he pins s σ H _ I h) fun v s1 ⟨x, H1, I1, r1, q1⟩ => ⟨x, σ, H1, I1, r1, q1⟩)
def tRetN : TS := fun D _ H => D.rt .non H
theorem ps_retN : PS X (.Return none pos) tRetN := fun _ _ σ H _ I h => wpAny_Return_none ⟨.non, σ, H, I, rfl, h⟩
def tIfS (c : TT) (t u : TS) : TS := fun D σ H => c σ H fun b H1 => if b = true then t D σ H1 else u D σ H1
theorem ps_if {c : Expr} {a b : List Stmt} {tc : TT} (hc : PT X c tc) (ha : PSs X a t) (hb : PSs X b u) : PS X (.If c a b pos) (tIfS tc t u) := by
  intro pins s σ H D I h
  refine wpAny_If (thn (hc pins s σ H _ I h) fun d s1 ⟨H1, I1, q1⟩ => ?_)
  cases d with
  | true => exact ha pins s1 σ H1 D I1 q1
  | false => exact hb pins s1 σ H1 D I1 q1

end


abbrev TG := V → St → Hp → (St → Hp → Prop) → Prop
abbrev TGs := List V → St → Hp → (St → Hp → Prop) → Prop
def PG (X : Cx) (target : Expr) (t : TG) : Prop :=
  ∀ (pins : List (Addr × Obj)) (s : Shared) (σ : St) (H : Hp) (v : V) (u : Value) (Q : St → Hp → Prop), Inv X pins σ H s → RelV v u → t v σ H Q →
    wpAny (model X.prog X.w) X.A (assign target X.env u) (fun _ s' => ∃ σ' H', Inv X pins σ' H' s' ∧ Q σ' H') X.xe s

def PGs (X : Cx) (ts : List Expr) (t : TGs) : Prop :=
  ∀ (pins : List (Addr × Obj)) (s : Shared) (σ : St) (H : Hp) (vs : List V) (us : List Value) (Q : St → Hp → Prop), Inv X pins σ H s → Vals vs us → t vs σ H Q →
    wpAny (model X.prog X.w) X.A (assignInOrder ((assignEach ts X.env).map (·.2)) us) (fun _ s' => ∃ σ' H', Inv X pins σ' H' s' ∧ Q σ' H') X.xe s

section
variable {X : Cx} {pos : Pos}
def gName (i : Nat) : TG := fun v σ H Q => Q (σ.set i (some v)) H
theorem pg_name {i : Nat} {x : Str} (hN : X.N.Nodup) (hi : X.N[i]? = some x) (hx : Loc X.env.scope x) (hf : X.fn x = true ∨ X.env.scope.names.lookup x = some .local := by first | exact .inl rfl | exact .inr rfl | assumption) : PG X (.Name x pos) (gName i) := by
  intro pins s σ H v u Q I r h
  exact wpAny_assign_Name (store_ok I hN hi hx r (fun s' I' => ⟨_, H, I', h⟩) hf)
def gNil : TGs := fun vs σ H Q => vs = [] ∧ Q σ H
def gCons (t : TG) (u : TGs) : TGs := fun vs σ H Q => ∃ v r, vs = v :: r ∧ t v σ H fun σ' H' => u r σ' H' Q
theorem pgs_nil : PGs X [] gNil := by
  intro pins s σ H vs us Q I r h
  obtain ⟨e, h⟩ := h
  subst e
  cases r
  exact assignInOrder_nil ⟨σ, H, I, h⟩
theorem pgs_cons {e : Expr} {es : List Expr} {t : TG} {u : TGs} (h1 : PG X e t) (h2 : PGs X es u)
    (hs : (assignEach (e :: es) X.env).map (·.2) = assign e X.env :: (assignEach es X.env).map (·.2) := by rfl) : PGs X (e :: es) (gCons t u) := by
  intro pins s σ H vs us Q I r h
  obtain ⟨v, vr, e1, h⟩ := h
  subst e1
  cases r with
  | cons r rr =>
    rw [hs]
    refine assignInOrder_cons (thn (h1 pins s σ H _ _ _ I r h) fun _ s1 ⟨σ1, H1, I1, q1⟩ => ?_)
    exact h2 pins s1 σ1 H1 _ _ Q I1 rr q1

def gTup (K : PySem.W.Frag) (n : Nat) (t : TGs) : TG := fun v σ H Q => ∃ a xs, v = .ref a ∧ SqT K H a xs ∧ xs.length = n ∧ t xs σ H Q
theorem pg_tup {es : List Expr} {k : Nat} {t : TGs} {n : Nat} (hc : X.calm = true) (h : PGs X es t)
    (hn : (assignEach es X.env).length = n := by rfl) (hst : (assignEach es X.env).findIdx? (·.1) = none := by rfl) : PG X (.Tuple es k pos) (gTup X.K n t) := by
  intro pins s σ H v u Q I r hw
  obtain ⟨a, xs, e1, hq, hl, hw⟩ := hw
  subst e1
  cases r
  obtain ⟨its, rv, ht, hz⟩ := I.tuple hq
  refine assign_Tuple_tuple (I.ok.hd hc) ht (by simp [hn, ← hl, rv.length]) hst fun h' hx => ?_
  have I1 : Inv X pins σ H { s with heap := h' } := I.kept (t' := s.toks) fun b o e => hx b o (Nat.ne_of_lt (Heap.lt_size e)) e
  exact h pins _ σ H xs _ Q I1 (by simpa using rv) hw

def tAsg (te : TE) (g : TG) : TS := fun D σ H => te σ H fun x H1 => g x σ H1 D.nx
theorem ps_set {i : Nat} {x : Str} {e : Expr} {te : TE} {pos' : Pos} (hN : X.N.Nodup) (hi : X.N[i]? = some x) (hx : Loc X.env.scope x) (he : PE X e te) (hs : swapsWith e (some (.Name x pos')) pos.line X.env = pure false := by rfl) (hf : X.fn x = true ∨ X.env.scope.names.lookup x = some .local := by first | exact .inl rfl | exact .inr rfl | assumption) :
    PS X (.Assign [.Name x pos'] e pos) (tAsg te (gName i)) := by
  intro pins s σ H D I h
  refine wpAny_Assign_Name (thn (he pins s σ H _ I h) fun v s1 ⟨y, H1, I1, r1, q1⟩ => ?_) hs
  exact store_ok I1 hN hi hx r1 (fun s2 I2 => ⟨_, H1, I2, q1⟩) hf

end


section
variable {X : Cx} {pos : Pos}

def tWhile (c : TT) (tb : TS) : TS := fun D σ H => ∃ W : Nat → St → Hp → Prop, (∃ m, W m σ H) ∧ ∀ m σ H, W m σ H →
  c σ H fun b H1 => if b = true then ∃ N : St → Hp → Prop, (∀ σ' H', N σ' H' → ∃ m', m' < m ∧ W m' σ' H') ∧ tb { D with nx := N, ct := N, bk := D.nx } σ H1 else D.nx σ H1
theorem ps_while {c : Expr} {body : List Stmt} {tc : TT} {tb : TS} (hp : PassesOwn (model X.prog X.w) X.A X.env X.xe) (hc : PT X c tc) (hb : PSs X body tb) : PS X (.While c body [] pos) (tWhile tc tb) := by
  intro pins s σ H D I h
  obtain ⟨W, ⟨m0, w0⟩, turn⟩ := h
  refine wpAny_While (codeAny_whileLoop (fun n s' => ∃ σ' H', Inv X pins σ' H' s' ∧ W n σ' H') ?_ m0 ⟨σ, H, I, w0⟩)
  rintro n s1 ⟨σ1, H1, I1, w1⟩
  refine wpAny_passesOwn hp (thn (hc pins s1 σ1 H1 _ I1 (turn n σ1 H1 w1)) fun b s2 ⟨H2, I2, q2⟩ => ?_)
  cases b with
  | true =>
    obtain ⟨N, hN, q2⟩ := q2
    rw [if_pos rfl]
    refine wpAny_passesOwn hp (thn (hb pins s2 σ1 H2 _ I2 q2) fun f s3 q3 => ?_)
    cases f with
    | next =>
      obtain ⟨σ3, H3, I3, n3⟩ := q3
      obtain ⟨m', hm, w3⟩ := hN σ3 H3 n3
      exact ⟨m', hm, σ3, H3, I3, w3⟩
    | cont =>
      obtain ⟨σ3, H3, I3, n3⟩ := q3
      obtain ⟨m', hm, w3⟩ := hN σ3 H3 n3
      exact ⟨m', hm, σ3, H3, I3, w3⟩
    | brk => exact q3
    | ret v => exact q3
  | false =>
    rw [if_neg Bool.false_ne_true]
    exact wpAny_execs_nil ⟨σ1, H2, I2, q2⟩
end



structure It where
  go : Nat → Hp → Prop
  yld : Nat → Hp → V → Hp → Prop
  stop : Nat → Hp → Prop

def FpOk (X : Cx) (pins : List (Addr × Obj)) (H : Hp) (b : Addr) : Prop :=
  H b = none ∧ b ≠ X.env.locals ∧ b ∉ X.fs ∧ (b ∈ X.ex ∨ X.s₀.heap.objs.size ≤ b) ∧ (∀ x c, X.env.cells.lookup x = some c → c ≠ b) ∧ ∀ p ∈ X.pn ++ pins, p.1 ≠ b
theorem Inv.fpOk {X : Cx} {pins : List (Addr × Obj)} {σ : St} {H H' : Hp} {s : Shared} {b : Addr} (I : Inv X pins σ H s) (hb : s.heap.objs.size ≤ b) (hn : H' b = none) : FpOk X pins H' b := by
  refine ⟨hn, Nat.ne_of_gt (Nat.lt_of_lt_of_le I.lt hb), I.nofs hb, .inr (Nat.le_trans I.sz hb), fun x c e z => ?_, fun p hp z => ?_⟩
  · obtain ⟨v, q⟩ := I.cell x c e
    exact absurd (Nat.lt_of_lt_of_le q.lt (by rw [z]; exact hb)) (Nat.lt_irrefl _)
  · exact absurd (Nat.lt_of_lt_of_le (Heap.lt_size (I.pin p hp).1) (by rw [z]; exact hb)) (Nat.lt_irrefl _)
structure Turn (P : Program) (w : World) (K : PySem.W.Frag) (tg : Expr) (J : It) (fp : List Addr) (it : Addr) (tn : Nat → Heap → Prop) : Prop where
  mem : it ∈ fp
  obj : ∀ i h, tn i h → ∀ b ∈ fp, ∃ o, h.get? b = some o ∧ ∀ v, o.data ≠ .cell v
  keep : ∀ i h h', tn i h → (∀ b ∈ fp, ∀ o, h.get? b = some o → h'.get? b = some o) → tn i h'
  item : ∀ (X : Cx), X.prog = P → X.w = w → X.K = K → X.calm = true → ∀ (i : Nat) (pins : List (Addr × Obj)) (s : Shared) (σ : St) (H : Hp) (E : Value → Shared → Prop), Inv X pins σ H s → (∀ b ∈ fp, FpOk X pins H b) → tn i s.heap → J.go i H →
    wpAny (model P w) X.A (pyNext (.ref it)) (fun r s1 => ∃ u, r = some u ∧
      wpAny (model P w) X.A (letOwnedTupleGo tg (.ref it) u) (fun _ s2 => ∃ x H', Inv X pins σ H' s2 ∧ RelV x u ∧ J.yld i H x H' ∧ tn (i + 1) s2.heap ∧ ∀ b ∈ fp, H' b = none) E s1) E s
  done : ∀ (X : Cx), X.prog = P → X.w = w → X.K = K → X.calm = true → ∀ (i : Nat) (pins : List (Addr × Obj)) (s : Shared) (σ : St) (H : Hp) (E : Value → Shared → Prop), Inv X pins σ H s → (∀ b ∈ fp, FpOk X pins H b) → tn i s.heap → J.stop i H →
    wpAny (model P w) X.A (pyNext (.ref it)) (fun r s1 => r = none ∧ Inv X pins σ H s1) E s
  self : ∀ (A : Around) (i : Nat) (s : Shared) (Q : Value → Shared → Prop) (E : Value → Shared → Prop), tn i s.heap → Q (.ref it) s → wpAny (model P w) A (pyIter (.ref it)) Q E s
abbrev TI := St → Hp → (It → Hp → Prop) → Prop

def PIE (X : Cx) (pins : List (Addr × Obj)) (σ : St) (tg : Expr) (R : It → Hp → Prop) (itv : Value) (s2 : Shared) : Prop :=
  ∃ (it : Addr) (fp : List Addr) (tn : Nat → Heap → Prop) (J : It) (H' : Hp), itv = .ref it ∧ Inv X pins σ H' s2 ∧ Turn X.prog X.w X.K tg J fp it tn ∧ tn 0 s2.heap ∧ (∀ b ∈ fp, FpOk X pins H' b) ∧ R J H'
def PI (X : Cx) (tg iter : Expr) (wi : TI) : Prop :=
  ∀ (pins : List (Addr × Obj)) (s : Shared) (σ : St) (H : Hp) (R : It → Hp → Prop), Inv X pins σ H s → wi σ H R →
    wpAny (model X.prog X.w) X.A (eval iter X.env) (fun v s1 => wpAny (model X.prog X.w) X.A (pyIter v) (PIE X pins σ tg R) X.xe s1) X.xe s


theorem go_of {M : Model} {A : Around} {E : Value → Shared → Prop} {s : Shared} {tg : Expr} {it : Addr} {u : Value} {o : Obj} {n : String} {vs : Array Value} {Q : Unit → Shared → Prop} (ho : s.heap.get? it = some o) (hc : o.cls = .type n) (hd : o.data = .fields vs)
    (hn : ["enumerate", "zip", "dict_itemiterator", "dict_reverseitemiterator", "odict_iterator", "itertools.zip_longest", "itertools.pairwise"].contains n = false) (hQ : Q () s) : wpAny M A (letOwnedTupleGo tg (.ref it) u) Q E s := by
  unfold letOwnedTupleGo
  cases tg <;> first
    | exact wpAny_pure hQ
    | (cases u <;> first
        | exact wpAny_pure hQ
        | (refine wpAny_bind (wpAny_load ho ?_)
           rw [hc, hd]
           show wpAny M A (if (["enumerate", "zip", "dict_itemiterator", "dict_reverseitemiterator", "odict_iterator", "itertools.zip_longest", "itertools.pairwise"].contains n && vs[0]? == some (rawInt _)) = true then _ else _) Q E s
           rw [if_neg (by intro h; rw [hn, Bool.false_and] at h; cases h)]
           exact wpAny_pure hQ))


def Itl (K : PySem.W.Frag) (a : Addr) : It :=
  ⟨fun i H => ∃ xs x, SqL K H a xs ∧ xs[i]? = some x, fun i H x H' => H' = H ∧ ∀ xs, SqL K H a xs → xs[i]? = some x, fun i H => ∃ xs, SqL K H a xs ∧ xs.length ≤ i⟩
def Itt (K : PySem.W.Frag) (a : Addr) : It :=
  ⟨fun i H => ∃ xs x, SqT K H a xs ∧ xs[i]? = some x, fun i H x H' => H' = H ∧ ∀ xs, SqT K H a xs → xs[i]? = some x, fun i H => ∃ xs, SqT K H a xs ∧ xs.length ≤ i⟩

def Itr (lo : Int) (n : Nat) : It := ⟨fun i _ => i < n, fun i H x H' => H' = H ∧ x = .int (lo + i), fun i _ => n ≤ i⟩
theorem turn_list {P : Program} {w : World} {K : PySem.W.Frag} {tg : Expr} (a it : Addr) : Turn P w K tg (Itl K a) [it] it (fun i h => h.IsListIter it a i) where
  mem := by simp
  obj := fun i h st b hb => by
    have e : b = it := by simpa using hb
    subst e
    obtain ⟨o, e, c, d⟩ := st
    exact ⟨o, e, fun v z => by rw [d] at z; cases z⟩
  keep := fun i h h' st k => st.at fun o e => k it (by simp) o e
  item := by
    intro X hP hw hK hc i pins s σ H E I hf st hg
    subst hP hw hK
    obtain ⟨xs, x, hq, hx⟩ := hg
    obtain ⟨its, rv, p, hz⟩ := I.list hq
    obtain ⟨u, hu, ru⟩ := rv.get hx
    obtain ⟨f0, f1, f2, f3, f4, f5⟩ := hf it (by simp)
    refine wpAny_pyNext_list_item st p.isList (x := u) (by simpa using hu) fun h' st' sb => ?_
    have I1 : Inv X pins σ H { s with heap := h' } := I.turned (t' := s.toks) (fun b o hb e => (sb.2 b hb).trans e) f0 f1 f3 f4 f5
    obtain ⟨o, e, c, d⟩ := id st'
    exact ⟨u, rfl, go_of (s := { s with heap := h' }) e c d (by decide) ⟨x, H, I1, ru, ⟨rfl, fun ys hy => by rw [I.list_inj hy hq]; exact hx⟩, st', fun b hb => (hf b hb).1⟩⟩
  done := by
    intro X hP hw hK hc i pins s σ H E I hf st hg
    subst hP hw hK
    obtain ⟨xs, hq, hx⟩ := hg
    obtain ⟨its, rv, p, hz⟩ := I.list hq
    obtain ⟨f0, f1, f2, f3, f4, f5⟩ := hf it (by simp)
    have hl := rv.length
    exact wpAny_pyNext_list_end (I.ok.hd hc) st p.isList (by simp; omega) fun h' eb => ⟨rfl, I.turned (t' := s.toks) (fun b o hb e => eb b o hb e) f0 f1 f3 f4 f5⟩
  self := fun _ _ _ _ _ st h => wpAny_pyIter_listiter st h
theorem turn_tuple {P : Program} {w : World} {K : PySem.W.Frag} {tg : Expr} (a it : Addr) : Turn P w K tg (Itt K a) [it] it (fun i h => h.IsTupleIter it a i) where
  mem := by simp
  obj := fun i h st b hb => by
    have e : b = it := by simpa using hb
    subst e
    obtain ⟨o, e, c, d⟩ := st
    exact ⟨o, e, fun v z => by rw [d] at z; cases z⟩
  keep := fun i h h' st k => st.at fun o e => k it (by simp) o e
  item := by
    intro X hP hw hK hc i pins s σ H E I hf st hg
    subst hP hw hK
    obtain ⟨xs, x, hq, hx⟩ := hg
    obtain ⟨its, rv, p, hz⟩ := I.tuple hq
    obtain ⟨u, hu, ru⟩ := rv.get hx
    obtain ⟨f0, f1, f2, f3, f4, f5⟩ := hf it (by simp)
    refine wpAny_pyNext_tuple_item st (show s.heap.IsTuple a its.toArray from p) (x := u) (by simpa using hu) fun h' st' sb => ?_
    have I1 : Inv X pins σ H { s with heap := h' } := I.turned (t' := s.toks) (fun b o hb e => (sb.2 b hb).trans e) f0 f1 f3 f4 f5
    obtain ⟨o, e, c, d⟩ := id st'
    exact ⟨u, rfl, go_of (s := { s with heap := h' }) e c d (by decide) ⟨x, H, I1, ru, ⟨rfl, fun ys hy => by rw [I.tuple_inj hy hq]; exact hx⟩, st', fun b hb => (hf b hb).1⟩⟩
  done := by
    intro X hP hw hK hc i pins s σ H E I hf st hg
    subst hP hw hK
    obtain ⟨xs, hq, hx⟩ := hg
    obtain ⟨its, rv, p, hz⟩ := I.tuple hq
    obtain ⟨f0, f1, f2, f3, f4, f5⟩ := hf it (by simp)
    have hl := rv.length
    exact wpAny_pyNext_tuple_end (I.ok.hd hc) st (show s.heap.IsTuple a its.toArray from p) (by simp; omega) fun h' eb => ⟨rfl, I.turned (t' := s.toks) (fun b o hb e => eb b o hb e) f0 f1 f3 f4 f5⟩
  self := fun _ _ _ _ _ st h => wpAny_pyIter_tupleiter st h
theorem turn_range {P : Program} {w : World} {K : PySem.W.Frag} {tg : Expr} (it : Addr) (lo : Int) (n : Nat) : Turn P w K tg (Itr lo n) [it] it (fun i h => IsRangeIter h it (lo + (i : Nat) * 1) ((n : Int) - (i : Nat)) 1) where
  mem := by simp
  obj := fun i h st b hb => by
    have e : b = it := by simpa using hb
    subst e
    exact ⟨_, st, fun v z => by
      have z' : Data.fields _ = Data.cell v := z
      cases z'⟩
  keep := fun i h h' st k => k it (by simp) _ st
  item := by
    intro X hP hw hK hc i pins s σ H E I hf st hg
    subst hP hw hK
    obtain ⟨f0, f1, f2, f3, f4, f5⟩ := hf it (by simp)
    have W := Walks.range (prog := X.prog) (w := X.w) (I.ok.hd hc) it lo 1 n
    refine W.item i s _ _ hg st fun v h' tk hv st' kk => ?_
    obtain ⟨t, rfl⟩ := hv
    have I1 : Inv X pins σ H { s with heap := h', toks := tk } := I.turned (fun b o hb e => kk b o (by simpa using hb) e) f0 f1 f3 f4 f5
    refine ⟨_, rfl, go_of (s := { s with heap := h', toks := tk }) (n := "range_iterator") st' rfl rfl (by decide) ⟨.int (lo + i), H, I1, ⟨t, ?_⟩, ⟨rfl, rfl⟩, st', fun b hb => (hf b hb).1⟩⟩
    rw [Int.mul_one]
  done := by
    intro X hP hw hK hc i pins s σ H E I hf st hg
    subst hP hw hK
    obtain ⟨f0, f1, f2, f3, f4, f5⟩ := hf it (by simp)
    exact wpAny_pyNext_range_end (I.ok.hd hc) st (by have : n ≤ i := hg; omega) fun h' eb => ⟨rfl, I.turned (t' := s.toks) (fun b o hb e => eb b o hb e) f0 f1 f3 f4 f5⟩
  self := fun _ _ _ _ _ st h => wpAny_pyIter_rangeiter st h
end L2

namespace L2
open PySem PySem.Spec PyProof.Rows
section
variable {X : Cx} {tg : Expr}
def iList (K : PySem.W.Frag) (tl : TE) : TI := fun σ H R => tl σ H fun x H1 => ∃ a, x = .ref a ∧ (∃ xs, SqL K H1 a xs) ∧ R (Itl K a) H1
def iTup (K : PySem.W.Frag) (tl : TE) : TI := fun σ H R => tl σ H fun x H1 => ∃ a, x = .ref a ∧ (∃ xs, SqT K H1 a xs) ∧ R (Itt K a) H1
theorem pi_list {l : Expr} {tl : TE} (hl : PE X l tl) : PI X tg l (iList X.K tl) := by
  intro pins s σ H R I h
  refine thn (hl pins s σ H _ I h) fun v s1 ⟨x, H1, I1, r1, q1⟩ => ?_
  obtain ⟨a, e, ⟨xs, hq⟩, q⟩ := q1
  subst e
  cases r1
  obtain ⟨its, rv, p, hz⟩ := I1.list hq
  refine wpAny_pyIter_list p.isList ?_
  refine ⟨s1.heap.objs.size, [s1.heap.objs.size], _, _, H1, rfl, I1.kept (t' := s1.toks) fun b o e => Heap.get?_push_of_some _ e, turn_list a _, ⟨_, Heap.get?_push_size _ rfl, rfl, rfl⟩, fun b hb => ?_, q⟩
  have e : b = s1.heap.objs.size := by simpa using hb
  subst e
  exact I1.fpOk (Nat.le_refl _) (I1.hok.fresh (Nat.le_refl _))
theorem pi_tup {l : Expr} {tl : TE} (hl : PE X l tl) : PI X tg l (iTup X.K tl) := by
  intro pins s σ H R I h
  refine thn (hl pins s σ H _ I h) fun v s1 ⟨x, H1, I1, r1, q1⟩ => ?_
  obtain ⟨a, e, ⟨xs, hq⟩, q⟩ := q1
  subst e
  cases r1
  obtain ⟨its, rv, p, hz⟩ := I1.tuple hq
  refine wpAny_pyIter_tuple (show s1.heap.IsTuple a its.toArray from p) ?_
  refine ⟨s1.heap.objs.size, [s1.heap.objs.size], _, _, H1, rfl, I1.kept (t' := s1.toks) fun b o e => Heap.get?_push_of_some _ e, turn_tuple a _, ⟨_, Heap.get?_push_size _ rfl, rfl, rfl⟩, fun b hb => ?_, q⟩
  have e : b = s1.heap.objs.size := by simpa using hb
  subst e
  exact I1.fpOk (Nat.le_refl _) (I1.hok.fresh (Nat.le_refl _))

theorem range_it {pins : List (Addr × Obj)} {σ : St} {H : Hp} {s : Shared} {R : It → Hp → Prop} {E : Value → Shared → Prop} {lo hi : Int} {t u v : Tok} {tk : Nat} (I : Inv X pins σ H s) (h1 : -(2 ^ 62) ≤ lo) (h2 : lo < 2 ^ 62) (h3 : -(2 ^ 62) ≤ hi) (h4 : hi < 2 ^ 62)
    (q : R (Itr lo (hi - lo).toNat) H) : wpAny (model X.prog X.w) X.A (pyIter (.ref s.heap.objs.size)) (PIE X pins σ tg R) E { s with heap := s.heap.push { cls := .type "range", data := .fields #[.int lo t, .int hi u, .int 1 v] }, toks := tk } := by
  refine wpAny_pyIter_range (IsRange.new ..) (small_one h1 h2 h3 h4) ?_
  have I1 : Inv X pins σ H { s with heap := s.heap.push { cls := .type "range", data := .fields #[.int lo t, .int hi u, .int 1 v] }, toks := tk } := I.kept fun b o e => Heap.get?_push_of_some _ e
  refine ⟨(s.heap.push { cls := .type "range", data := .fields #[.int lo t, .int hi u, .int 1 v] }).objs.size, [(s.heap.push { cls := .type "range", data := .fields #[.int lo t, .int hi u, .int 1 v] }).objs.size], _, _, H, rfl,
    I1.kept (t' := tk) fun b o e => Heap.get?_push_of_some _ e, turn_range _ lo (hi - lo).toNat, ?_, fun b hb => ?_, q⟩
  · have e1 : lo + ((0 : Nat) : Int) * 1 = lo := by simp
    have e2 : (((hi - lo).toNat : Nat) : Int) - ((0 : Nat) : Int) = Builtin.Range.rangeSize lo hi 1 := by rw [rangeSize_one]; split <;> omega
    show IsRangeIter _ _ (lo + ((0 : Nat) : Int) * 1) ((((hi - lo).toNat : Nat) : Int) - ((0 : Nat) : Int)) 1
    rw [e1, e2]
    exact Heap.get?_push_size _ rfl
  · have e : b = (s.heap.push { cls := .type "range", data := .fields #[.int lo t, .int hi u, .int 1 v] }).objs.size := by simpa using hb
    subst e
    exact I1.fpOk (Nat.le_refl _) (I1.hok.fresh (Nat.le_refl _))
def iRng1 (ta : TA) : TI := fun σ H R => ta σ H fun vs H1 => ∃ j : Int, vs = [.int j] ∧ -(2 ^ 62) ≤ j ∧ j < 2 ^ 62 ∧ R (Itr 0 j.toNat) H1
theorem pi_range1 {a : Expr} {ta : TA} {p pos : Pos} (hg : Gl X "range") (hm : X.mg "range" = none) (ha : PA X [a] ta) (hs : starEach [a] X.env = [(false, eval a X.env)] := by rfl) : PI X tg (.Call (.Name "range" p) [a] [] pos) (iRng1 ta) := by
  intro pins s σ H R I h
  refine Call_ (ld_blt I hg hm boot_range (PyProof.Rows.callWith_type1 (thn (ha pos pins s σ H _ I h) fun us s1 ⟨vs, H1, I1, r1, q1⟩ => ?_) hs rfl))
  obtain ⟨j, e, q1, q2, q⟩ := q1
  subst e
  cases r1 with
  | cons r rr =>
    cases rr
    obtain ⟨t, rfl⟩ := r
    exact call_range_1 (range_it I1 (by omega) (by omega) q1 q2 (by simpa using q))
def tFor (wi : TI) (g : TG) (tb : TS) : TS := fun D σ H => wi σ H fun J H1 => ∃ W : Nat → Nat → St → Hp → Prop, (∃ m, W 0 m σ H1) ∧ ∀ i m σ H, W i m σ H →
  (J.stop i H ∧ D.nx σ H) ∨ (J.go i H ∧ ∃ N : St → Hp → Prop, (∀ σ' H', N σ' H' → ∃ m', m' < m ∧ W (i + 1) m' σ' H') ∧ ∀ x H', J.yld i H x H' → g x σ H' fun σ2 H2 => tb { D with nx := N, ct := N, bk := D.nx } σ2 H2)

def pinsAt (fp : List Addr) (h : Heap) : List (Addr × Obj) := fp.filterMap fun b => (h.get? b).map fun o => (b, o)
theorem mem_pinsAt {fp : List Addr} {h : Heap} {b : Addr} {o : Obj} (hb : b ∈ fp) (e : h.get? b = some o) : (b, o) ∈ pinsAt fp h := List.mem_filterMap.mpr ⟨b, hb, by rw [e]; rfl⟩
theorem of_pinsAt {fp : List Addr} {h : Heap} {p : Addr × Obj} (hp : p ∈ pinsAt fp h) : p.1 ∈ fp ∧ h.get? p.1 = some p.2 := by
  obtain ⟨b, hb, e⟩ := List.mem_filterMap.mp hp
  cases q : h.get? b with
  | none => rw [q] at e; cases e
  | some o =>
    rw [q] at e
    have e' : (b, o) = p := Option.some.inj e
    subst e'
    exact ⟨hb, q⟩
theorem Inv.pinned {pins : List (Addr × Obj)} {σ : St} {H : Hp} {s : Shared} {fp : List Addr} (I : Inv X pins σ H s) (hf : ∀ b ∈ fp, FpOk X pins H b) (ho : ∀ b ∈ fp, ∃ o, s.heap.get? b = some o ∧ ∀ v, o.data ≠ .cell v) : Inv X (pins ++ pinsAt fp s.heap) σ H s :=
  I.pins_of fun p hp => (List.mem_append.mp hp).elim (fun z => I.pin p (List.mem_append_right _ z)) fun z => by
    obtain ⟨hb, e⟩ := of_pinsAt z
    obtain ⟨f0, f1, f2, _⟩ := hf p.1 hb
    obtain ⟨o, e', d⟩ := ho p.1 hb
    rw [e] at e'; cases e'
    exact ⟨e, f0, f1, f2, d⟩
theorem Inv.unpinned {pins pl : List (Addr × Obj)} {σ : St} {H : Hp} {s : Shared} (I : Inv X (pins ++ pl) σ H s) : Inv X pins σ H s := I.pins_of fun p hp => I.pin p (List.mem_append_right _ (List.mem_append_left _ hp))
theorem ps_for {iter : Expr} {body : List Stmt} {wi : TI} {g : TG} {tb : TS} {pos : Pos} (hp : PassesOwn (model X.prog X.w) X.A X.env X.xe) (hc : X.calm = true) (hi : PI X tg iter wi) (hg : PG X tg g) (hb : PSs X body tb)
    (hs : ∀ x, foldedSetIterable iter X.env x = pure x := by intro _; rfl) : PS X (.For tg iter body [] pos) (tFor wi g tb) := by
  intro pins s σ H D I h
  refine wpAny_For (thn (hi pins s σ H _ I h) fun v s1 h1 => thn h1 fun itv s2 h2 => ?_) hs
  obtain ⟨it, fp, tn, J, H2, e, I2, T, st2, f2, W, ⟨m0, w0⟩, turn⟩ := h2
  subst e
  -- what stays true of the iterator's objects through the loop
  have stat : ∀ {H' : Hp}, (∀ b ∈ fp, H' b = none) → ∀ b ∈ fp, FpOk X pins H' b := fun hn b hb => ⟨hn b hb, (f2 b hb).2⟩
  refine codeAny_forLoop_any (fun n s' => ∃ i σ' H', Inv X pins σ' H' s' ∧ tn i s'.heap ∧ (∀ b ∈ fp, H' b = none) ∧ W i n σ' H') ?_ m0 ⟨0, σ, H2, I2, st2, fun b hb => (f2 b hb).1, w0⟩
  rintro n s3 ⟨i, σ3, H3, I3, st3, fr3, w3⟩
  rcases turn i n σ3 H3 w3 with ⟨stop, qn⟩ | ⟨go, N, hN, step⟩
  · refine wpAny_passesOwn hp (thn (T.done X rfl rfl rfl hc i pins s3 σ3 H3 X.xe I3 (stat fr3) st3 stop) fun r s4 ⟨hr, I4⟩ => ?_)
    subst hr
    exact wpAny_execs_nil ⟨σ3, H3, I4, qn⟩
  · refine wpAny_passesOwn hp (thn (T.item X rfl rfl rfl hc i pins s3 σ3 H3 X.xe I3 (stat fr3) st3 go) fun r s4 ⟨u, hr, h4⟩ => ?_)
    subst hr
    refine wpAny_passesOwn hp (thn h4 fun _ s5 ⟨x, H5, I5, r5, y5, st5, fr5⟩ => ?_)
    have I5' := I5.pinned (stat fr5) (T.obj _ _ st5)
    refine wpAny_passesOwn hp (thn (hg _ s5 σ3 H5 x u _ I5' r5 (step x H5 y5)) fun _ s6 ⟨σ6, H6, I6, q6⟩ => ?_)
    refine wpAny_passesOwn hp (thn (hb _ s6 σ6 H6 _ I6 q6) fun f s7 q7 => ?_)
    have again : ∀ {σ7 : St} {H7 : Hp}, Inv X (pins ++ pinsAt fp s5.heap) σ7 H7 s7 → N σ7 H7 → ∃ m, m < n ∧ ∃ i σ' H', Inv X pins σ' H' s7 ∧ tn i s7.heap ∧ (∀ b ∈ fp, H' b = none) ∧ W i m σ' H' := fun {σ7 H7} I7 n7 => by
      obtain ⟨m', hm, w7⟩ := hN σ7 H7 n7
      refine ⟨m', hm, i + 1, σ7, H7, I7.unpinned, T.keep _ _ _ st5 fun b hb o e => (I7.pin (b, o) (List.mem_append_right _ (List.mem_append_right _ (mem_pinsAt hb e)))).1, fun b hb => ?_, w7⟩
      obtain ⟨o, e, d⟩ := T.obj _ _ st5 b hb
      exact (I7.pin (b, o) (List.mem_append_right _ (List.mem_append_right _ (mem_pinsAt hb e)))).2.1
    cases f with
    | next => obtain ⟨σ7, H7, I7, n7⟩ := q7; exact again I7 n7
    | cont => obtain ⟨σ7, H7, I7, n7⟩ := q7; exact again I7 n7
    | brk => obtain ⟨σ7, H7, I7, q7⟩ := q7; exact ⟨σ7, H7, I7.unpinned, q7⟩
    | ret v => obtain ⟨x7, σ7, H7, I7, r7, q7⟩ := q7; exact ⟨x7, σ7, H7, I7.unpinned, r7, q7⟩
end



theorem for_list {K : PySem.W.Frag} {a : Addr} {xs : List V} {g : TG} {tb : TS} {D : Ends} {σ : St} {H : Hp} (Pv : Nat → St → Hp → Prop) (h0 : Pv 0 σ H) (hl : ∀ i σ H, i ≤ xs.length → Pv i σ H → SqL K H a xs)
    (hs : ∀ i x σ H, xs[i]? = some x → Pv i σ H → g x σ H fun σ2 H2 => tb { D with nx := Pv (i + 1), ct := Pv (i + 1), bk := D.nx } σ2 H2) (hd : ∀ σ H, Pv xs.length σ H → D.nx σ H) :
    ∃ W : Nat → Nat → St → Hp → Prop, (∃ m, W 0 m σ H) ∧ ∀ i m σ H, W i m σ H →
      ((Itl K a).stop i H ∧ D.nx σ H) ∨ ((Itl K a).go i H ∧ ∃ N : St → Hp → Prop, (∀ σ' H', N σ' H' → ∃ m', m' < m ∧ W (i + 1) m' σ' H') ∧ ∀ x H', (Itl K a).yld i H x H' → g x σ H' fun σ2 H2 => tb { D with nx := N, ct := N, bk := D.nx } σ2 H2) := by
  refine ⟨fun i m σ H => m = xs.length - i ∧ i ≤ xs.length ∧ Pv i σ H, ⟨xs.length, by simp, Nat.zero_le _, h0⟩, ?_⟩
  rintro i m σ H ⟨rfl, hi, p⟩
  have q := hl i σ H hi p
  by_cases hlt : i < xs.length
  · refine .inr ⟨⟨xs, xs[i], q, by simp [hlt]⟩, Pv (i + 1), fun σ' H' p' => ⟨xs.length - (i + 1), by omega, rfl, hlt, p'⟩, fun x H' y => ?_⟩
    obtain ⟨e, y⟩ := y
    subst e
    exact hs i x σ _ (y xs q) p
  · have e : i = xs.length := by omega
    subst e
    exact .inl ⟨⟨xs, q, Nat.le_refl _⟩, hd σ H p⟩
theorem for_tup {K : PySem.W.Frag} {a : Addr} {xs : List V} {g : TG} {tb : TS} {D : Ends} {σ : St} {H : Hp} (Pv : Nat → St → Hp → Prop) (h0 : Pv 0 σ H) (hl : ∀ i σ H, i ≤ xs.length → Pv i σ H → SqT K H a xs)
    (hs : ∀ i x σ H, xs[i]? = some x → Pv i σ H → g x σ H fun σ2 H2 => tb { D with nx := Pv (i + 1), ct := Pv (i + 1), bk := D.nx } σ2 H2) (hd : ∀ σ H, Pv xs.length σ H → D.nx σ H) :
    ∃ W : Nat → Nat → St → Hp → Prop, (∃ m, W 0 m σ H) ∧ ∀ i m σ H, W i m σ H →
      ((Itt K a).stop i H ∧ D.nx σ H) ∨ ((Itt K a).go i H ∧ ∃ N : St → Hp → Prop, (∀ σ' H', N σ' H' → ∃ m', m' < m ∧ W (i + 1) m' σ' H') ∧ ∀ x H', (Itt K a).yld i H x H' → g x σ H' fun σ2 H2 => tb { D with nx := N, ct := N, bk := D.nx } σ2 H2) := by
  refine ⟨fun i m σ H => m = xs.length - i ∧ i ≤ xs.length ∧ Pv i σ H, ⟨xs.length, by simp, Nat.zero_le _, h0⟩, ?_⟩
  rintro i m σ H ⟨rfl, hi, p⟩
  have q := hl i σ H hi p
  by_cases hlt : i < xs.length
  · refine .inr ⟨⟨xs, xs[i], q, by simp [hlt]⟩, Pv (i + 1), fun σ' H' p' => ⟨xs.length - (i + 1), by omega, rfl, hlt, p'⟩, fun x H' y => ?_⟩
    obtain ⟨e, y⟩ := y
    subst e
    exact hs i x σ _ (y xs q) p
  · have e : i = xs.length := by omega
    subst e
    exact .inl ⟨⟨xs, q, Nat.le_refl _⟩, hd σ H p⟩
theorem for_range {lo : Int} {n : Nat} {g : TG} {tb : TS} {D : Ends} {σ : St} {H : Hp} (Pv : Nat → St → Hp → Prop) (h0 : Pv 0 σ H)
    (hs : ∀ i σ H, i < n → Pv i σ H → g (.int (lo + i)) σ H fun σ2 H2 => tb { D with nx := Pv (i + 1), ct := Pv (i + 1), bk := D.nx } σ2 H2) (hd : ∀ σ H, Pv n σ H → D.nx σ H) :
    ∃ W : Nat → Nat → St → Hp → Prop, (∃ m, W 0 m σ H) ∧ ∀ i m σ H, W i m σ H →
      ((Itr lo n).stop i H ∧ D.nx σ H) ∨ ((Itr lo n).go i H ∧ ∃ N : St → Hp → Prop, (∀ σ' H', N σ' H' → ∃ m', m' < m ∧ W (i + 1) m' σ' H') ∧ ∀ x H', (Itr lo n).yld i H x H' → g x σ H' fun σ2 H2 => tb { D with nx := N, ct := N, bk := D.nx } σ2 H2) := by
  refine ⟨fun i m σ H => m = n - i ∧ i ≤ n ∧ Pv i σ H, ⟨n, by simp, Nat.zero_le _, h0⟩, ?_⟩
  rintro i m σ H ⟨rfl, hi, p⟩
  by_cases hlt : i < n
  · refine .inr ⟨hlt, Pv (i + 1), fun σ' H' p' => ⟨n - (i + 1), by omega, rfl, hlt, p'⟩, fun x H' y => ?_⟩
    obtain ⟨e, y⟩ := y
    subst e y
    exact hs i σ _ hlt p
  · have e : i = n := by omega
    subst e
    exact .inl ⟨Nat.le_refl _, hd σ H p⟩

end L2

namespace L2
open PySem PySem.Spec PyProof.Rows

abbrev R2 := V → V → Hp → VK → Prop

def OpR (X : Cx) (f : Value → Value → Sem Value) (r : R2) : Prop :=
  ∀ (pins : List (Addr × Obj)) (s : Shared) (σ : St) (H : Hp) (x y : V) (v u : Value) (Q : VK), Inv X pins σ H s → RelV x v → RelV y u → r x y H Q →
    wpAny (model X.prog X.w) X.A (f v u) (EP X pins σ Q) X.xe s

def UnR (X : Cx) (f : Value → Sem Value) (r : V → Hp → VK → Prop) : Prop :=
  ∀ (pins : List (Addr × Obj)) (s : Shared) (σ : St) (H : Hp) (x : V) (v : Value) (Q : VK), Inv X pins σ H s → RelV x v → r x H Q →
    wpAny (model X.prog X.w) X.A (f v) (EP X pins σ Q) X.xe s

def CallR (X : Cx) (f : Value) (r : List V → Hp → VK → Prop) : Prop :=
  ∀ (pins : List (Addr × Obj)) (s : Shared) (σ : St) (H : Hp) (xs : List V) (us : List Value) (Q : VK), Inv X pins σ H s → Vals xs us → r xs H Q →
    wpAny (model X.prog X.w) X.A (call f us) (EP X pins σ Q) X.xe s

def TruR (X : Cx) (r : V → Hp → (Bool → Hp → Prop) → Prop) : Prop :=
  ∀ (pins : List (Addr × Obj)) (s : Shared) (σ : St) (H : Hp) (x : V) (v : Value) (Q : Bool → Hp → Prop), Inv X pins σ H s → RelV x v → r x H Q →
    wpAny (model X.prog X.w) X.A (truthy v) (TP X pins σ Q) X.xe s

def tOp (r : R2) (ta tb : TE) : TE := fun σ H Q => ta σ H fun x H1 => tb σ H1 fun y H2 => r x y H2 Q
def tUn (r : V → Hp → VK → Prop) (ta : TE) : TE := fun σ H Q => ta σ H fun x H1 => r x H1 Q

def rI (C : Int → Int → Prop) (g : Int → Int → V) : R2 := fun x y H Q => ∃ i j, x = .int i ∧ y = .int j ∧ C i j ∧ Q (g i j) H
def rI0 (g : Int → Int → V) : R2 := fun x y H Q => ∃ i j, x = .int i ∧ y = .int j ∧ Q (g i j) H
def rU (g : Int → V) : V → Hp → VK → Prop := fun x H Q => ∃ i, x = .int i ∧ Q (g i) H

section
variable {X : Cx} {a b c : Expr} {ta tb tc : TE} {pos : Pos}

theorem binT (ha : PE X a ta) (hb : PE X b tb) {pins : List (Addr × Obj)} {s : Shared} {σ : St} {H : Hp} {R : V → V → Hp → Prop} (I : Inv X pins σ H s)
    (h : ta σ H fun x H1 => tb σ H1 fun y H2 => R x y H2) {Q : Value → Shared → Prop} {f : Value → Value → Sem Value}
    (hf : ∀ v u s2 x y H2, Inv X pins σ H2 s2 → RelV x v → RelV y u → R x y H2 → wpAny (model X.prog X.w) X.A (f v u) Q X.xe s2) :
    wpAny (model X.prog X.w) X.A (eval a X.env) (fun v s₁ => wpAny (model X.prog X.w) X.A (eval b X.env) (fun u s₂ => wpAny (model X.prog X.w) X.A (f v u) Q X.xe s₂) X.xe s₁) X.xe s := by
  refine thn (ha pins s σ H _ I h) fun v s1 ⟨x, H1, I1, r1, q1⟩ => ?_
  refine thn (hb pins s1 σ H1 _ I1 q1) fun u s2 ⟨y, H2, I2, r2, q2⟩ => ?_
  exact hf v u s2 x y H2 I2 r1 r2 q2

theorem pe_op {op : Operator} {r : R2} (ho : OpR X (binaryOp op) r) (ha : PE X a ta) (hb : PE X b tb) : PE X (.BinOp a op b pos) (tOp r ta tb) := by
  intro pins s σ H Q I h
  exact wpAny_BinOp (binT ha hb I h fun v u s2 x y H2 I2 rx ry q => ho pins s2 σ H2 x y v u Q I2 rx ry q)
theorem pe_un {op : UnaryOp} {r : V → Hp → VK → Prop} (ho : UnR X (unaryOp op) r) (ha : PE X a ta) : PE X (.UnaryOp op a pos) (tUn r ta) := by
  intro pins s σ H Q I h
  exact UnaryOp_ (thn (ha pins s σ H _ I h) fun v s1 ⟨x, H1, I1, r1, q1⟩ => ho pins s1 σ H1 x v Q I1 r1 q1)

theorem opI {f : Value → Value → Sem Value} {C : Int → Int → Prop} {g : Int → Int → Int}
    (rule : ∀ (i j : Int) (t u : Tok) (s : Shared) (Q : Value → Shared → Prop) (E : Value → Shared → Prop), C i j → Q (.int (g i j) s.toks) { s with toks := s.toks + 1 } → wpAny (model X.prog X.w) X.A (f (.int i t) (.int j u)) Q E s) :
    OpR X f (rI C fun i j => .int (g i j)) := by
  intro pins s σ H x y v u Q I rx ry h
  obtain ⟨i, j, rfl, rfl, hc, q⟩ := h
  obtain ⟨t, rfl⟩ := rx
  obtain ⟨t', rfl⟩ := ry
  exact rule i j t t' s _ _ hc ⟨.int (g i j), H, I.tok _, ⟨_, rfl⟩, q⟩
theorem opI0 {f : Value → Value → Sem Value} {g : Int → Int → Int}
    (rule : ∀ (i j : Int) (t u : Tok) (s : Shared) (Q : Value → Shared → Prop) (E : Value → Shared → Prop), Q (.int (g i j) s.toks) { s with toks := s.toks + 1 } → wpAny (model X.prog X.w) X.A (f (.int i t) (.int j u)) Q E s) :
    OpR X f (rI0 fun i j => .int (g i j)) := by
  intro pins s σ H x y v u Q I rx ry h
  obtain ⟨i, j, rfl, rfl, q⟩ := h
  obtain ⟨t, rfl⟩ := rx
  obtain ⟨t', rfl⟩ := ry
  exact rule i j t t' s _ _ ⟨.int (g i j), H, I.tok _, ⟨_, rfl⟩, q⟩
theorem opB0 {f : Value → Value → Sem Value} {g : Int → Int → Bool}
    (rule : ∀ (i j : Int) (t u : Tok) (s : Shared) (Q : Value → Shared → Prop) (E : Value → Shared → Prop), Q (.bool (g i j)) s → wpAny (model X.prog X.w) X.A (f (.int i t) (.int j u)) Q E s) :
    OpR X f (rI0 fun i j => .bl (g i j)) := by
  intro pins s σ H x y v u Q I rx ry h
  obtain ⟨i, j, rfl, rfl, q⟩ := h
  obtain ⟨t, rfl⟩ := rx
  obtain ⟨t', rfl⟩ := ry
  exact rule i j t t' s _ _ ⟨.bl (g i j), H, I, rfl, q⟩

def CDiv (i j : Int) : Prop := 0 < j ∧ j < 1073741824
def CPow (i j : Int) : Prop := 0 ≤ j ∧ j ≤ 1000000 ∧ i.natAbs < 2 ^ 64
def CMul (i j : Int) : Prop := (-(2 ^ 64) < i ∧ i < 2 ^ 64) ∨ (-(2 ^ 64) < j ∧ j < 2 ^ 64)
theorem CMul.ok {i j : Int} (h : CMul i j) : IntMulOk i j := by
  rcases h with ⟨h1, h2⟩ | ⟨h1, h2⟩
  · exact .of_left (intBits_le_64 h1 h2)
  · exact .of_right (intBits_le_64 h1 h2)
theorem op_add : OpR X (binaryOp .Add) (rI0 fun i j => .int (i + j)) := opI0 fun _ _ _ _ _ _ _ q => add_int q
theorem op_sub : OpR X (binaryOp .Sub) (rI0 fun i j => .int (i - j)) := opI0 fun _ _ _ _ _ _ _ q => sub_int q
theorem op_mul : OpR X (binaryOp .Mult) (rI CMul fun i j => .int (i * j)) := opI fun _ _ _ _ _ _ _ hc q => mul_int q hc.ok

theorem op_fdiv : OpR X (binaryOp .FloorDiv) (rI CDiv fun i j => .int (i / j)) := opI fun i j _ _ _ _ _ hc q => by
  have h1 : (0 : Int) < j := hc.1
  have h2 : j < 1073741824 := hc.2
  exact floordiv_int (by omega) (by rw [Int.fdiv_eq_ediv_of_nonneg i (by omega)]; exact q) (.inl (PyProof.noPylong_small (by omega)))
theorem op_mod : OpR X (binaryOp .Mod) (rI (fun _ j => 0 < j) fun i j => .int (i % j)) := opI fun i j _ _ _ _ _ hc q => by
  have h1 : (0 : Int) < j := hc
  exact mod_int' (by omega) (by rw [Int.fmod_eq_emod_of_nonneg i (by omega)]; exact q)
theorem op_pow : OpR X (binaryOp .Pow) (rI CPow fun i j => .int (i ^ j.toNat)) := opI fun _ _ _ _ _ _ _ hc q => pow_int_small hc.1 hc.2.1 hc.2.2 q
theorem unI {f : Value → Sem Value} {g : Int → Int}
    (rule : ∀ (i : Int) (t : Tok) (s : Shared) (Q : Value → Shared → Prop) (E : Value → Shared → Prop), Q (.int (g i) s.toks) { s with toks := s.toks + 1 } → wpAny (model X.prog X.w) X.A (f (.int i t)) Q E s) :
    UnR X f (rU fun i => .int (g i)) := by
  intro pins s σ H x v Q I rx h
  obtain ⟨i, rfl, q⟩ := h
  obtain ⟨t, rfl⟩ := rx
  exact rule i t s _ _ ⟨.int (g i), H, I.tok _, ⟨_, rfl⟩, q⟩
theorem un_neg : UnR X (unaryOp .USub) (rU fun i => .int (-i)) := unI fun _ _ _ _ _ q => neg_int q
end



def scal : V → V → Bool
  | .non, .non => true | .non, .int _ => true | .int _, .non => true | .non, .bl _ => true | .bl _, .non => true | .non, .str _ => true | .str _, .non => true
  | .int _, .int _ => true | .bl _, .bl _ => true | .str _, .str _ => true | .byt _, .byt _ => true
  | .int _, .str _ => true | .str _, .int _ => true | .bl _, .str _ => true | .str _, .bl _ => true
  | _, _ => false
def rEq : R2 := fun x y H Q => scal x y = true ∧ Q (.bl (decide (x = y))) H
def rNe : R2 := fun x y H Q => scal x y = true ∧ Q (.bl (!decide (x = y))) H

theorem dec_int {i j : Int} : decide (V.int i = V.int j) = (i == j) := by
  rw [Bool.eq_iff_iff]
  simp
theorem dec_bl {i j : Bool} : decide (V.bl i = V.bl j) = (i == j) := by
  rw [Bool.eq_iff_iff]
  simp
theorem dec_str {i j : Str} : decide (V.str i = V.str j) = (i == j) := by
  rw [Bool.eq_iff_iff]
  simp
theorem dec_byt {i j : Array UInt8} : decide (V.byt i = V.byt j) = (i.toList == j.toList) := by
  rw [Bool.eq_iff_iff]
  cases i
  cases j
  simp

section
variable {X : Cx} {a b c : Expr} {ta tb tc : TE} {pos : Pos}
theorem fin_bl {pins : List (Addr × Obj)} {σ : St} {H : Hp} {s : Shared} {Q : VK} {k k' : Bool} (I : Inv X pins σ H s) (q : Q (.bl k) H) (e : k = k') : EP X pins σ Q (.bool k') s := by
  subst e
  exact ⟨.bl k, H, I, rfl, q⟩
theorem op_eq : OpR X (compareOp .Eq) rEq := by
  intro pins s σ H x y v u Q I rx ry h
  obtain ⟨hs, q⟩ := h
  cases x with
  | non =>
    cases rx
    cases y with
    | non => cases ry; exact PySem.EqNone.eq_none_none (fin_bl I q (by simp))
    | bl j => cases ry; exact PySem.EqNone.eq_none_bool (fin_bl I q (by simp))
    | int j => obtain ⟨t', rfl⟩ := ry; exact PySem.EqNone.eq_none_int (fin_bl I q (by simp))
    | str j => obtain ⟨t', rfl⟩ := ry; exact PySem.EqNone.eq_none_str (fin_bl I q (by simp))
    | _ => exact absurd (show false = true from hs) Bool.false_ne_true
  | bl i =>
    cases rx
    cases y with
    | non => cases ry; exact PySem.EqNone.eq_bool_none (fin_bl I q (by simp))
    | bl j => cases ry; exact eq_bool (fin_bl I q dec_bl)
    | str j => obtain ⟨t', rfl⟩ := ry; exact PySem.EqMixed.eq_bool_str (fin_bl I q (by simp))
    | _ => exact absurd (show false = true from hs) Bool.false_ne_true
  | int i =>
    obtain ⟨t, rfl⟩ := rx
    cases y with
    | non => cases ry; exact PySem.EqNone.eq_int_none (fin_bl I q (by simp))
    | int j => obtain ⟨t', rfl⟩ := ry; exact eq_int (fin_bl I q dec_int)
    | str j => obtain ⟨t', rfl⟩ := ry; exact PySem.EqMixed.eq_int_str (fin_bl I q (by simp))
    | _ => exact absurd (show false = true from hs) Bool.false_ne_true
  | str i =>
    obtain ⟨t, rfl⟩ := rx
    cases y with
    | non => cases ry; exact PySem.EqNone.eq_str_none (fin_bl I q (by simp))
    | bl j => cases ry; exact PySem.EqMixed.eq_str_bool (fin_bl I q (by simp))
    | int j => obtain ⟨t', rfl⟩ := ry; exact PySem.EqMixed.eq_str_int (fin_bl I q (by simp))
    | str j => obtain ⟨t', rfl⟩ := ry; exact eq_str (fin_bl I q dec_str)
    | _ => exact absurd (show false = true from hs) Bool.false_ne_true
  | byt i =>
    obtain ⟨t, rfl⟩ := rx
    cases y with
    | byt j => obtain ⟨t', rfl⟩ := ry; exact PySem.W.eq_bytes (fin_bl I q dec_byt)
    | _ => exact absurd (show false = true from hs) Bool.false_ne_true
  | _ => cases y <;> exact absurd (show false = true from hs) Bool.false_ne_true
theorem op_ne : OpR X (compareOp .NotEq) rNe := by
  intro pins s σ H x y v u Q I rx ry h
  obtain ⟨hs, q⟩ := h
  cases x with
  | non =>
    cases rx
    cases y with
    | non => cases ry; exact PySem.EqNone.ne_none_none (fin_bl I q (by simp))
    | bl j => cases ry; exact PySem.EqNone.ne_none_bool (fin_bl I q (by simp))
    | int j => obtain ⟨t', rfl⟩ := ry; exact PySem.EqNone.ne_none_int (fin_bl I q (by simp))
    | str j => obtain ⟨t', rfl⟩ := ry; exact PySem.EqNone.ne_none_str (fin_bl I q (by simp))
    | _ => exact absurd (show false = true from hs) Bool.false_ne_true
  | bl i =>
    cases rx
    cases y with
    | non => cases ry; exact PySem.EqNone.ne_bool_none (fin_bl I q (by simp))
    | bl j => cases ry; exact ne_bool (fin_bl I q (congrArg not dec_bl))
    | str j => obtain ⟨t', rfl⟩ := ry; exact PySem.EqMixed.ne_bool_str (fin_bl I q (by simp))
    | _ => exact absurd (show false = true from hs) Bool.false_ne_true
  | int i =>
    obtain ⟨t, rfl⟩ := rx
    cases y with
    | non => cases ry; exact PySem.EqNone.ne_int_none (fin_bl I q (by simp))
    | int j => obtain ⟨t', rfl⟩ := ry; exact ne_int (fin_bl I q (congrArg not dec_int))
    | str j => obtain ⟨t', rfl⟩ := ry; exact PySem.EqMixed.ne_int_str (fin_bl I q (by simp))
    | _ => exact absurd (show false = true from hs) Bool.false_ne_true
  | str i =>
    obtain ⟨t, rfl⟩ := rx
    cases y with
    | non => cases ry; exact PySem.EqNone.ne_str_none (fin_bl I q (by simp))
    | bl j => cases ry; exact PySem.EqMixed.ne_str_bool (fin_bl I q (by simp))
    | int j => obtain ⟨t', rfl⟩ := ry; exact PySem.EqMixed.ne_str_int (fin_bl I q (by simp))
    | str j => obtain ⟨t', rfl⟩ := ry; exact ne_str (fin_bl I q (congrArg not dec_str))
    | _ => exact absurd (show false = true from hs) Bool.false_ne_true
  | byt i =>
    obtain ⟨t, rfl⟩ := rx
    cases y with
    | byt j => obtain ⟨t', rfl⟩ := ry; exact PySem.W.ne_bytes (fin_bl I q (congrArg not dec_byt))
    | _ => exact absurd (show false = true from hs) Bool.false_ne_true
  | _ => cases y <;> exact absurd (show false = true from hs) Bool.false_ne_true

theorem op_lt : OpR X (compareOp .Lt) (rI0 fun i j => .bl (decide (i < j))) := opB0 fun _ _ _ _ _ _ _ q => lt_int q
theorem op_le : OpR X (compareOp .LtE) (rI0 fun i j => .bl (decide (i ≤ j))) := opB0 fun _ _ _ _ _ _ _ q => le_int q
theorem op_gt : OpR X (compareOp .Gt) (rI0 fun i j => .bl (decide (j < i))) := opB0 fun _ _ _ _ _ _ _ q => gt_int q
theorem op_ge : OpR X (compareOp .GtE) (rI0 fun i j => .bl (decide (j ≤ i))) := opB0 fun _ _ _ _ _ _ _ q => ge_int q
theorem nomark (b : Expr) {op : CmpOp} (h : op ≠ .In := by decide) (h2 : op ≠ .NotIn := by decide) : behindInMarks op b = false := by
  have e1 : (op == CmpOp.In) = false := by cases op <;> first | rfl | exact absurd rfl h
  have e2 : (op == CmpOp.NotIn) = false := by cases op <;> first | rfl | exact absurd rfl h2
  cases b <;> simp [behindInMarks, e1, e2]

theorem pe_cmpR {op : CmpOp} {r : R2} (ho : OpR X (compareOp op) r) (ha : PE X a ta) (hb : PE X b tb) (hm : behindInMarks op b = false) : PE X (.Compare a [op] [b] pos) (tOp r ta tb) := by
  intro pins s σ H Q I h
  exact wpAny_Compare1 (binT ha hb I h fun v u s2 x y H2 I2 rx ry q => ho pins s2 σ H2 x y v u Q I2 rx ry q) hm

def tTest (t : TE) : TT := fun σ H Q => t σ H fun x H' => ∃ k, x = .bl k ∧ Q k H'
theorem pt_cmpR {op : CmpOp} {r : R2} (ho : OpR X (compareOp op) r) (ha : PE X a ta) (hb : PE X b tb) (hm : behindInMarks op b = false) : PT X (.Compare a [op] [b] pos) (tTest (tOp r ta tb)) := by
  intro pins s σ H Q I h
  refine wpAny_isTrue_Compare1 (thn (ha pins s σ H _ I h) fun v s1 ⟨x, H1, I1, r1, q1⟩ => thn (hb pins s1 σ H1 _ I1 q1) fun u s2 ⟨y, H2, I2, r2, q2⟩ =>
    thn (ho pins s2 σ H2 x y v u _ I2 r1 r2 q2) fun c s3 ⟨z, H3, I3, r3, k, e, q3⟩ => ?_) hm
  subst e
  cases r3
  exact wpAny_truthy_bool ⟨H3, I3, q3⟩

def tChain (r r' : R2) (ta tb tc : TE) : TE := fun σ H Q => ta σ H fun x H1 => tb σ H1 fun y H2 => r x y H2 fun z H3 => ∃ k, z = .bl k ∧
  (if k = true then tc σ H3 fun w' H4 => r' y w' H4 Q else Q (.bl false) H3)
theorem pe_chain {op op' : CmpOp} {r r' : R2} (ho : OpR X (compareOp op) r) (ho' : OpR X (compareOp op') r') (ha : PE X a ta) (hb : PE X b tb) (hc : PE X c tc)
    (hm : lastMarks [op, op'] [b, c] = false := by with_unfolding_all rfl) : PE X (.Compare a [op, op'] [b, c] pos) (tChain r r' ta tb tc) := by
  intro pins s σ H Q I h
  refine Compare_chain (thn (ha pins s σ H _ I h) fun v s1 ⟨x, H1, I1, r1, q1⟩ => chain_link (thn (hb pins s1 σ H1 _ I1 q1) fun u s2 ⟨y, H2, I2, r2, q2⟩ =>
    thn (ho pins s2 σ H2 x y v u _ I2 r1 r2 q2) fun d s3 ⟨z, H3, I3, r3, k, e, q3⟩ => ?_)) hm
  subst e
  cases r3
  refine wpAny_truthy_bool ?_
  cases k with
  | false => exact ite_ff ⟨.bl false, H3, I3, rfl, q3⟩
  | true => exact ite_tt (chain_last (thn (hc pins s3 σ H3 _ I3 q3) fun w' s4 ⟨z', H4, I4, r4, q4⟩ => ho' pins s4 σ H4 y z' u w' Q I4 r2 r4 q4))
theorem pt_chain {op op' : CmpOp} {r r' : R2} (ho : OpR X (compareOp op) r) (ho' : OpR X (compareOp op') r') (ha : PE X a ta) (hb : PE X b tb) (hc : PE X c tc)
    (hm : lastMarks [op, op'] [b, c] = false := by with_unfolding_all rfl) : PT X (.Compare a [op, op'] [b, c] pos) (tTest (tChain r r' ta tb tc)) := by
  intro pins s σ H Q I h
  refine isTrue_chain (thn (ha pins s σ H _ I h) fun v s1 ⟨x, H1, I1, r1, q1⟩ => test_link (thn (hb pins s1 σ H1 _ I1 q1) fun u s2 ⟨y, H2, I2, r2, q2⟩ =>
    thn (ho pins s2 σ H2 x y v u _ I2 r1 r2 q2) fun d s3 ⟨z, H3, I3, r3, k, e, q3⟩ => ?_)) hm
  subst e
  cases r3
  refine wpAny_truthy_bool ?_
  cases k with
  | false =>
    obtain ⟨k', e', q'⟩ := q3
    cases e'
    exact ite_ff ⟨H3, I3, q'⟩
  | true =>
    refine ite_tt (test_last (thn (hc pins s3 σ H3 _ I3 q3) fun w' s4 ⟨z', H4, I4, r4, q4⟩ => thn (ho' pins s4 σ H4 y z' u w' _ I4 r2 r4 q4) fun d' s5 ⟨z2, H5, I5, r5, k2, e2, q5⟩ => ?_))
    subst e2
    cases r5
    exact wpAny_truthy_bool ⟨H5, I5, q5⟩



def TruV (K : PySem.W.Frag) (x : V) (H : Hp) (k : Bool) : Prop :=
  match x with
  | .non => k = false
  | .bl b => k = b
  | .int i => k = (i != 0)
  | .str y => y.length ≤ sizeLine ∧ k = ((y.length : Int) != 0)
  | .byt y => y.size ≤ sizeLine ∧ k = ((y.size : Int) != 0)
  | .ref p => (∃ xs, SqL K H p xs ∧ k = !xs.isEmpty) ∨ (∃ xs, SqT K H p xs ∧ k = !xs.isEmpty) ∨ ∃ kvs, H p = some (.dK kvs) ∧ k = !kvs.isEmpty
  | _ => False
theorem isEmpty_kv {κ : Type} {kvs : List (κ × V)} {vs : List (κ × Value)} (r : KV kvs vs) : (!vs.isEmpty) = !kvs.isEmpty := by
  cases r <;> rfl
theorem isEmpty_of {xs : List V} {its : List Value} (r : Vals xs its) : (!its.toArray.isEmpty) = !xs.isEmpty := by
  cases r <;> simp
theorem line63 : (sizeLine : Nat) < 2 ^ 63 := by rw [sizeLine_eq]; decide
theorem tru_ok : TruR X (fun x H Q => ∃ k, TruV X.K x H k ∧ Q k H) := by
  intro pins s σ H x v Q I rx h
  obtain ⟨k, e, q⟩ := h
  have hl := line63
  have hs : sizeLine = 16777216 := sizeLine_eq
  cases x with
  | non =>
    cases rx
    have e' : k = false := e
    subst e'
    exact truthy_none ⟨H, I, q⟩
  | bl b =>
    cases rx
    have e' : k = b := e
    subst e'
    exact wpAny_truthy_bool ⟨H, I, q⟩
  | int i =>
    obtain ⟨t, rfl⟩ := rx
    have e' : k = (i != 0) := e
    subst e'
    exact PySem.P.truthy_int ⟨H, I, q⟩
  | str y =>
    obtain ⟨t, rfl⟩ := rx
    obtain ⟨hy, e'⟩ : y.length ≤ sizeLine ∧ k = ((y.length : Int) != 0) := e
    subst e'
    exact PySem.P.truthy_str (by omega) ⟨H, I.tok _, q⟩
  | byt y =>
    obtain ⟨t, rfl⟩ := rx
    obtain ⟨hy, e'⟩ : y.size ≤ sizeLine ∧ k = ((y.size : Int) != 0) := e
    subst e'
    exact PySem.W.truthy_bytes (by omega) ⟨H, I.tok _, q⟩
  | ref p =>
    cases rx
    have e' : (∃ xs, SqL X.K H p xs ∧ k = !xs.isEmpty) ∨ (∃ xs, SqT X.K H p xs ∧ k = !xs.isEmpty) ∨ ∃ kvs, H p = some (.dK kvs) ∧ k = !kvs.isEmpty := e
    rcases e' with ⟨xs, hx, e'⟩ | ⟨xs, hx, e'⟩ | ⟨kvs, hx, e'⟩
    · subst e'
      obtain ⟨its, r, pl, hz⟩ := I.list hx
      have hlen := r.length
      exact wpAny_truthy_list pl.isList (by simp only [List.size_toArray]; omega) ⟨H, I.tok _, by rw [isEmpty_of r]; exact q⟩
    · subst e'
      obtain ⟨its, r, pl, hz⟩ := I.tuple hx
      have hlen := r.length
      exact truthy_tuple pl (by simp only [List.size_toArray]; omega) ⟨H, I.tok _, by rw [isEmpty_of r]; exact q⟩
    · subst e'
      obtain ⟨hz, hS, vs, r, m⟩ : kvs.length ≤ sizeLine ∧ (p == sysModules) = false ∧ ∃ vs, KV kvs vs ∧ s.heap.DictOf (mixKind X.prog X.w) p vs := I.hok p _ hx
      have hlen : kvs.length = vs.length := Paired.length r
      exact wpAny_truthy_dict hS m (by omega) ⟨H, I.tok _, by rw [isEmpty_kv r]; exact q⟩
  | _ => exact (show False from e).elim

theorem pt_truth (ha : PE X a ta) (he : ∀ whole, isTrue a X.env whole = (do let v ← whole; standAt a.pos; holding [v] (truthy v))) :
    PT X a (fun σ H Q => ta σ H fun x H' => ∃ k, TruV X.K x H' k ∧ Q k H') := by
  intro pins s σ H Q I h
  exact isTrue_plain (thn (ha pins s σ H _ I h) fun v s1 ⟨x, H1, I1, r1, q1⟩ => tru_ok pins s1 σ H1 x v Q I1 r1 q1) (he _)


theorem op_add_str : OpR X (binaryOp .Add) (fun x y H Q => ∃ i j, x = .str i ∧ y = .str j ∧ i.length + j.length ≤ sizeLine ∧ Q (.str (i ++ j)) H) := by
  intro pins s σ H x y v u Q I rx ry h
  obtain ⟨i, j, rfl, rfl, hz, q⟩ := h
  obtain ⟨t, rfl⟩ := rx
  obtain ⟨t', rfl⟩ := ry
  exact add_str (fun t' tk => ⟨.str (i ++ j), H, I.tok _, ⟨_, rfl⟩, q⟩) hz
theorem vals1 {x : V} {us : List Value} (r : Vals [x] us) : ∃ u, us = [u] ∧ RelV x u := by
  cases r with
  | cons r1 r2 => cases r2; exact ⟨_, rfl, r1⟩
theorem vals2 {x y : V} {us : List Value} (r : Vals [x, y] us) : ∃ u w', us = [u, w'] ∧ RelV x u ∧ RelV y w' := by
  cases r with
  | cons r1 r2 =>
    cases r2 with
    | cons r3 r4 => cases r4; exact ⟨_, _, rfl, r1, r3⟩
theorem call_max2 (hc : X.calm = true) : CallR X (.builtin "max") (fun xs H Q => ∃ i j, xs = [.int i, .int j] ∧ Q (.int (if j > i then j else i)) H) := by
  intro pins s σ H xs us Q I r h
  obtain ⟨i, j, rfl, q⟩ := h
  obtain ⟨u, w', rfl, ⟨t, rfl⟩, ⟨t', rfl⟩⟩ := vals2 r
  refine max_two_ints (I.ok.hd hc) fun h' tk k => ⟨_, H, I.kept k, ?_, q⟩
  by_cases hj : j > i
  · rw [if_pos hj, if_pos hj]; exact ⟨_, rfl⟩
  · rw [if_neg hj, if_neg hj]; exact ⟨_, rfl⟩
theorem call_int1 : CallR X (.type "int") (fun xs H Q => (∃ i, xs = [.int i] ∧ Q (.int i) H) ∨ ∃ k, xs = [.bl k] ∧ Q (.int (if k then 1 else 0)) H) := by
  intro pins s σ H xs us Q I r h
  rcases h with ⟨i, rfl, q⟩ | ⟨k, rfl, q⟩
  · obtain ⟨u, rfl, t, rfl⟩ := vals1 r
    exact call_int_int ⟨.int i, H, I, ⟨_, rfl⟩, q⟩
  · obtain ⟨u, rfl, r1⟩ := vals1 r
    cases r1
    exact call_int_bool ⟨.int (if k then 1 else 0), H, I.tok _, ⟨_, rfl⟩, q⟩
theorem call_ord : CallR X (.builtin "ord") (fun xs H Q => ∃ x, xs = [.str x] ∧ x.length = 1 ∧ Q (.int (x.cps.getD 0 0 : Nat)) H) := by
  intro pins s σ H xs us Q I r h
  obtain ⟨x, rfl, hz, q⟩ := h
  obtain ⟨u, rfl, t, rfl⟩ := vals1 r
  exact ord_of_one hz ⟨.int _, H, I.tok _, ⟨_, rfl⟩, q⟩
end
end L2

namespace L2
open PySem PySem.Spec PyProof.Rows


structure ObjM (h : Heap) (x dx C : Addr) (mA : Str → Option Value) : Prop where
  obj : h.get? x = some (PySem.W.instObj C dx)
  ns : h.Ns1 dx mA
  ne : dx ≠ x

theorem lookIn_ns {h : Heap} {dx : Addr} {mA : Str → Option Value} (n : h.Ns1 dx mA) : ∃ od, h.get? dx = some od ∧ ∀ name, PySem.W.lookIn name od = some (mA name) := by
  obtain ⟨o, es, ep, ho, hd, hk, _, hm⟩ := n
  refine ⟨o, ho, fun name => ?_⟩
  have e := hm name
  unfold nsFind findBy at e
  rw [← Array.find?_toList] at e
  unfold PySem.W.lookIn
  rw [hd]
  dsimp only
  split
  · rename_i y q
    rw [q] at e
    exact congrArg some e
  · rename_i q
    rw [q] at e
    have a : es.toList.any (·.refKey) = false := by
      rw [List.any_eq_false]
      intro y hy
      obtain ⟨z, t, hkey⟩ := hk y (Array.mem_toList_iff.mp hy)
      simp [DictEntry.refKey, hkey]
    have a' : ¬ es.toList.any (·.refKey) = true := by rw [a]; exact Bool.false_ne_true
    rw [if_neg a']
    exact congrArg some e

theorem ObjM.look {h : Heap} {x dx C : Addr} {mA : Str → Option Value} (I : ObjM h x dx C mA) : ∃ od, PySem.W.InstAt h x (PySem.W.instObj C dx) C (some od) ∧ ∀ name, PySem.W.lookIn name od = some (mA name) :=
  let ⟨od, ho, hl⟩ := lookIn_ns I.ns
  ⟨od, ⟨I.obj, rfl, rfl, ho⟩, hl⟩

section
variable {prog : Program} {w : World} {A : Around} {E : Value → Shared → Prop} {s : Shared} {K : PySem.W.Frag} {x dx C f : Addr} {mA : Str → Option Value} {name : Str} {v : Value}

theorem get_map {expr : Bool} {Q : Value → Shared → Prop} (X : K.In s.heap) (I : ObjM s.heap x dx C mA) (hg : PySem.W.plainGet K C name = true) (hh : PySem.W.hasDictIn K C = true)
    (ha : PySem.W.findIn K (.ref C) name = some none) (hv : mA name = some v) (hv' : PySem.W.handedIn v = true) (h : Q v { s with toks := s.toks + 1 }) :
    wpAny (model prog w) A (getAttr (.ref x) name expr) Q E s := by
  obtain ⟨od, J, hl⟩ := I.look
  exact PySem.W.get_value X J (PySem.W.plainGet_of hg).1 (PySem.W.findObj_own hh ha rfl (by rw [hl, hv])) hv' h

theorem get_meth {pl : Sem Bool} {Q : Value × List Value → Shared → Prop} (X : K.In s.heap) (I : ObjM s.heap x dx C mA) (hg : PySem.W.plainGet K C name = true)
    (hf : PySem.W.findIn K (.ref C) name = some (some (.ref f))) (ht : PySem.W.isFn K (.ref f) = true) (hv : mA name = none) (h : Q (.ref f, [.ref x]) s) :
    wpAny (model prog w) A (getMethod (.ref x) name pl) Q E s := by
  obtain ⟨od, J, hl⟩ := I.look
  exact PySem.W.method_fn X J (PySem.W.plainGet_of hg).1 (PySem.W.plainGet_of hg).2 hf (beq_iff_eq.mp ht) (by show (PySem.W.lookIn name od).map (·.isSome) = some false; rw [hl, hv]; rfl) h

theorem set_map {ns : List Str} {Q : Unit → Shared → Prop} (X : K.In s.heap) (I : ObjM s.heap x dx C mA)
    (hs : PySem.W.findIn K (.ref C) "__setattr__" = some (some (.builtin "object.__setattr__"))) (hp : PySem.W.plainOver K C = true) (ht : PySem.W.takerIn K C name = some none) (hh : PySem.W.hasDictIn K C = true)
    (hw : PySem.Within mA ns) (hsz : ns.length ≤ sizeLine)
    (h : ∀ h', ObjM h' x dx C (fun y => if y = name then some v else mA y) → Heap.SameBut dx s.heap h' → Q () { s with heap := h', toks := s.toks + 2 }) :
    wpAny (model prog w) A (setAttr (.ref x) name v) Q E s := by
  obtain ⟨od, J, hl⟩ := I.look
  refine PySem.W.set_plain X J hs (PySem.W.osa_open (s := { s with toks := s.toks + 1 }) (r := none) X J hp ht fun b => ?_)
  obtain ⟨cd, hc, hd'⟩ := PySem.W.any_some hh
  have hx : s.heap.get? x = some ⟨.ref C, some dx, .plain, #[]⟩ := I.obj
  refine wpAny_bind (wpAny_pure (wpAny_bind (wpAny_bind (wpAny_loadPart hx (wpAny_bind (PySem.W.Looks.here (s := { s with toks := s.toks + 1 }) (PySem.W.looks_clsIn X hc) ?_))))))
  rw [hd']
  refine wpAny_pure (a := some dx) (wpAny_bind (wpAny_pure (wpAny_bind ?_)))
  refine wpAny_nsSet1 (s := { s with toks := s.toks + 1 }) I.ns fun h' hn2 hs2 => ?_
  obtain ⟨oD, esD, epD, hoD, hdD, hcD⟩ := hn2.count (PySem.Within.cons name v hw)
  refine wpAny_bind (wpAny_lookBehind hoD (by rw [hdD]; exact pastItsLine_dict (Nat.le_trans hcD (by rw [List.length_cons]; omega))) ?_)
  exact wpAny_pure (h _ ⟨(hs2.2 _ (Ne.symm I.ne)).trans I.obj, hn2, I.ne⟩ hs2)


theorem make_map {R : Result → Shared → Prop} {vs : List Value} {kw : List (Str × Value)} (X : K.In s.heap) (hm : PySem.W.makesIn K C = true)
    (hi : PySem.W.findIn K (.ref C) "__init__" = some (some (.ref f))) (hf : PySem.W.typeIn K (.ref f) = some (.type "function"))
    (h : codeAny (model prog w) (A.under (.builtin "type.__call__" ⟨.ref C :: vs, kw⟩)) (.call (.ref f) ⟨.ref (s.heap.objs.size + 1) :: vs, kw⟩) (PySem.W.InitBack (s.heap.objs.size + 1) R)
      { s with heap := (s.heap.push PySem.W.emptyDict).push (PySem.W.instObj C s.heap.objs.size) }) :
    codeAny (model prog w) A (.call (.ref C) ⟨vs, kw⟩) R s := by
  obtain ⟨hh, g, d, t, os⟩ := s
  exact PySem.W.make_core (PySem.W.makes_of X hm) (PySem.W.looks_findIn X hi) (fun self => PySem.W.bind_fn X self hf) (.inl rfl) h

end


def putF (f : Str) (v : V) : List (Str × V) → List (Str × V)
  | [] => [(f, v)]
  | (g, x) :: r => if g = f then (g, v) :: r else (g, x) :: putF f v r
theorem lookup_putF (f g : Str) (v : V) : ∀ fs : List (Str × V), (putF f v fs).lookup g = if g = f then some v else fs.lookup g
  | [] => by
    show List.lookup g [(f, v)] = _
    by_cases h : g = f
    · have hb : (g == f) = true := beq_iff_eq.mpr h
      simp only [List.lookup, hb, if_pos h]
    · have hb : (g == f) = false := beq_eq_false_iff_ne.mpr h
      simp only [List.lookup, hb, if_neg h]
  | (k, x) :: r => by
    have ih := lookup_putF f g v r
    rw [show putF f v ((k, x) :: r) = (if k = f then (k, v) :: r else (k, x) :: putF f v r) from rfl]
    by_cases hk : k = f
    · rw [if_pos hk]
      by_cases h : g = k
      · have hb : (g == k) = true := beq_iff_eq.mpr h
        simp only [List.lookup, hb, if_pos (h.trans hk)]
      · have hb : (g == k) = false := beq_eq_false_iff_ne.mpr h
        simp only [List.lookup, hb, if_neg (fun e : g = f => h (e.trans hk.symm))]
    · rw [if_neg hk]
      by_cases h : g = k
      · have hb : (g == k) = true := beq_iff_eq.mpr h
        simp only [List.lookup, hb, if_neg (fun e : g = f => hk (h.symm.trans e))]
      · have hb : (g == k) = false := beq_eq_false_iff_ne.mpr h
        simp only [List.lookup, hb]
        exact ih
theorem keys_putF (f : Str) (v : V) : ∀ fs : List (Str × V), f ∈ (putF f v fs).map (·.1) ∧ ∀ g, g ∈ fs.map (·.1) → g ∈ (putF f v fs).map (·.1)
  | [] => ⟨by simp [putF], fun g h => by simp at h⟩
  | (k, x) :: r => by
    obtain ⟨i1, i2⟩ := keys_putF f v r
    rw [show putF f v ((k, x) :: r) = (if k = f then (k, v) :: r else (k, x) :: putF f v r) from rfl]
    by_cases hk : k = f
    · rw [if_pos hk]
      subst hk
      exact ⟨by simp, fun g h => by simpa using h⟩
    · rw [if_neg hk]
      refine ⟨?_, fun g h => ?_⟩
      · rw [List.map_cons]
        exact List.mem_cons_of_mem _ i1
      · rw [List.map_cons] at h ⊢
        rcases List.mem_cons.mp h with e | e
        · exact List.mem_cons.mpr (.inl e)
        · exact List.mem_cons_of_mem _ (i2 g e)
theorem length_putF (f : Str) (v : V) : ∀ fs : List (Str × V), (putF f v fs).length ≤ fs.length + 1
  | [] => by simp [putF]
  | (k, x) :: r => by
    have ih := length_putF f v r
    rw [show putF f v ((k, x) :: r) = (if k = f then (k, v) :: r else (k, x) :: putF f v r) from rfl]
    by_cases hk : k = f
    · rw [if_pos hk, List.length_cons, List.length_cons]; omega
    · rw [if_neg hk, List.length_cons, List.length_cons]; omega

theorem RelO.some_of {v : V} {o : Option Value} (r : RelO (some v) o) : ∃ u, o = some u ∧ RelV v u := by
  cases o with
  | none => exact (show False from r).elim
  | some u => exact ⟨u, rfl, r⟩
theorem RelO.none_of {o : Option Value} (r : RelO none o) : o = none := by
  cases o with
  | none => rfl
  | some u => exact (show False from r).elim
theorem handed_of {v : V} {u : Value} (r : RelV v u) : PySem.W.handedIn u = true := by
  cases v with
  | non => cases (show u = Value.none from r); rfl
  | bl b => cases (show u = Value.bool b from r); rfl
  | int i => obtain ⟨t, e⟩ := (show ∃ t, u = Value.int i t from r); cases e; rfl
  | str x => obtain ⟨t, e⟩ := (show ∃ t, u = Value.str x t from r); cases e; rfl
  | byt b => obtain ⟨t, e⟩ := (show ∃ t, u = Value.bytes b t from r); cases e; rfl
  | flt b => obtain ⟨t, e⟩ := (show ∃ t, u = Value.float b t from r); cases e; rfl
  | ref a => cases (show u = Value.ref a from r); rfl
  | ty n => cases (show u = Value.type n from r); rfl

section
variable {P : Program} {w : World} {H H' : Hp} {h h' : Heap} {a C dx : Addr} {fs fs' : List (Str × V)}
theorem ins_get (hok : HOk P w H h) (e : H a = some (.ins C dx fs)) : ∃ mA, ObjM h a dx C mA ∧ (∀ f, RelO (fs.lookup f) (mA f)) ∧ PySem.Within mA (fs.map (·.1)) ∧ fs.length ≤ 1000 ∧ H dx = some (.own a) := by
  obtain ⟨d, z, ne, ob, mA, n, r, q⟩ := (show ObjOk P w H h a (.ins C dx fs) from hok a _ e)
  exact ⟨mA, ⟨ob, n, ne⟩, r, q, z, d⟩
end


structure Cls (K : PySem.W.Frag) (C : Addr) : Prop where
  pg : PySem.W.plainGet K C Str.empty = true
  hd : PySem.W.hasDictIn K C = true
  po : PySem.W.plainOver K C = true
  sa : PySem.W.findIn K (.ref C) "__setattr__" = some (some (.builtin "object.__setattr__"))
theorem Cls.get {K : PySem.W.Frag} {C : Addr} (c : Cls K C) (f : Str) : PySem.W.plainGet K C f = true := c.pg

def NoAttr (K : PySem.W.Frag) (C : Addr) (f : Str) : Prop := PySem.W.findIn K (.ref C) f = some none
theorem NoAttr.taker {K : PySem.W.Frag} {C : Addr} {f : Str} (n : NoAttr K C f) : PySem.W.takerIn K C f = some none := by
  unfold PySem.W.takerIn
  rw [show PySem.W.findIn K (.ref C) f = some none from n]
  rfl

structure Con (K : PySem.W.Frag) (C : Addr) (f : Str) (v : V) (u : Value) : Prop where
  at_ : PySem.W.findIn K (.ref C) f = some (some u)
  rel : RelV v u
  get : PySem.W.specialIn K u "__get__" = some none
  cp : PySem.W.copiedNames.contains f = false

structure Meth (K : PySem.W.Frag) (C : Addr) (m : Str) (f : Addr) : Prop where
  at_ : PySem.W.findIn K (.ref C) m = some (some (.ref f))
  fn : PySem.W.isFn K (.ref f) = true
  kp : PySem.W.keepIn K (.ref f) = true

section
variable {X : Cx} {pins : List (Addr × Obj)} {σ : St} {H : Hp} {s : Shared} {a C dx : Addr} {fs : List (Str × V)} {f : Str} {v : V} {A : Around} {E : Value → Shared → Prop}

theorem getattr_ok {b : Bool} {Q : Value → Shared → Prop} (I : Inv X pins σ H s) (e : H a = some (.ins C dx fs)) (c : Cls X.K C) (n : NoAttr X.K C f) (l : fs.lookup f = some v)
    (h : ∀ u s', Inv X pins σ H s' → RelV v u → Q u s') : wpAny (model X.prog X.w) A (getAttr (.ref a) f b) Q E s := by
  obtain ⟨mA, O, r, _, _, _⟩ := ins_get I.hok e
  obtain ⟨u, hu, ru⟩ := RelO.some_of (v := v) (o := mA f) (by rw [← l]; exact r f)
  exact get_map I.kIn O (c.get f) c.hd n hu (handed_of ru) (h u _ (I.tok _) ru)

theorem getmeth_ok {m : Str} {g : Addr} {pl : Sem Bool} {Q : Value × List Value → Shared → Prop} (I : Inv X pins σ H s) (e : H a = some (.ins C dx fs)) (c : Cls X.K C) (k : Meth X.K C m g) (l : fs.lookup m = none)
    (h : Q (.ref g, [.ref a]) s) : wpAny (model X.prog X.w) A (getMethod (.ref a) m pl) Q E s := by
  obtain ⟨mA, O, r, _, _, _⟩ := ins_get I.hok e
  have hn : mA m = none := RelO.none_of (by rw [← l]; exact r m)
  exact get_meth I.kIn O (c.get m) k.at_ k.fn hn h

theorem setattr_ok {y : V} {u : Value} {Q : Unit → Shared → Prop} (I : Inv X pins σ H s) (e : H a = some (.ins C dx fs)) (c : Cls X.K C) (n : NoAttr X.K C f) (hl : fs.length < 1000) (ry : RelV y u)
    (h : ∀ s', Inv X pins σ (upd H a (.ins C dx (putF f y fs))) s' → Q () s') : wpAny (model X.prog X.w) A (setAttr (.ref a) f u) Q E s := by
  obtain ⟨mA, O, r, wi, _, ho⟩ := ins_get I.hok e
  have hz : (fs.map (·.1)).length ≤ sizeLine := by rw [List.length_map, sizeLine_eq]; omega
  refine set_map I.kIn O c.sa c.po n.taker c.hd wi hz fun h' O' sb => h _ ?_
  have hd : ∃ o, h'.get? dx = some o := let ⟨o, _, _, e', _⟩ := O'.ns; ⟨o, e'⟩
  refine I.write (x := a) (e := dx) (by rw [e]; exact True.intro) (.inr ho) (fun b q hb z => (sb.2 b hb).trans z) hd ?_
  refine ⟨by rw [upd_ne O.ne]; exact ho, ?_, O.ne, O'.obj, _, O'.ns, fun g => ?_, fun g hg => ?_⟩
  · have := length_putF f y fs; omega
  · show RelO ((putF f y fs).lookup g) (if g = f then some u else mA g)
    rw [lookup_putF]
    by_cases q : g = f
    · rw [if_pos q, if_pos q]; exact ry
    · rw [if_neg q, if_neg q]; exact r g
  · by_cases q : g = f
    · rw [q]; exact (keys_putF f y fs).1
    · refine (keys_putF f y fs).2 g (wi g fun z => hg ?_)
      show (if g = f then some u else mA g) = none
      rw [if_neg q]; exact z


theorem Inv.made (I : Inv X pins σ H s) : Inv X pins σ (upd (upd H s.heap.objs.size (.own (s.heap.objs.size + 1))) (s.heap.objs.size + 1) (.ins C s.heap.objs.size []))
    { s with heap := (s.heap.push PySem.W.emptyDict).push (PySem.W.instObj C s.heap.objs.size) } := by
  have e1 : (s.heap.push PySem.W.emptyDict).get? s.heap.objs.size = some PySem.W.emptyDict := Heap.get?_push_size s.heap rfl
  have e2 : ((s.heap.push PySem.W.emptyDict).push (PySem.W.instObj C s.heap.objs.size)).get? (s.heap.objs.size + 1) = some (PySem.W.instObj C s.heap.objs.size) := by
    have := Heap.get?_push_size (s.heap.push PySem.W.emptyDict) (o := PySem.W.instObj C s.heap.objs.size) rfl
    rwa [Heap.size_push] at this
  have e3 : (s.heap.push PySem.W.emptyDict).Ns s.heap.objs.size (fun _ => none) := ⟨PySem.W.emptyDict, #[], _, e1, rfl, (fun e he => absurd he (by simp)), fun _ => rfl⟩
  have I1 := I.laid (a := s.heap.objs.size) (o := .own (s.heap.objs.size + 1)) (h' := s.heap.push PySem.W.emptyDict) (t' := s.toks) (fun b u q => Heap.get?_push_of_some _ q) (Nat.le_refl _) ⟨_, e1⟩
  refine I1.laid (a := s.heap.objs.size + 1) (o := .ins C s.heap.objs.size []) (t' := s.toks) (fun b u q => Heap.get?_push_of_some _ q) (Nat.le_of_eq (Heap.size_push _ _)) ?_
  have ne : s.heap.objs.size ≠ s.heap.objs.size + 1 := Nat.ne_of_lt (Nat.lt_succ_self _)
  refine ⟨by rw [upd_ne ne, upd_same], Nat.zero_le _, ne, e2, fun _ => none, (Heap.Ns1.of_empty e3).at fun o q => Heap.get?_push_of_some _ q, fun _ => True.intro, fun y hy => absurd rfl hy⟩


theorem attr_of {prog : Program} {w : World} {env : Env} {e : Expr} {f : Str} {pos : Pos} {s : Shared} {Q : Value → Shared → Prop} (hb : attributeBase e f env (eval e env) = eval e env)
    (h : wpAny (model prog w) A (eval e env) (fun o s₁ => wpAny (model prog w) A (getAttr o f true) Q E s₁) E s) : wpAny (model prog w) A (eval (.Attribute e f pos) env) Q E s :=
  Attribute_any_ h (by rw [arm_eval_Attribute, hb])
end



def tFld (K : PySem.W.Frag) (ta : TE) (f : Str) : TE := fun σ H Q => ta σ H fun x H1 => ∃ a C dx fs v, x = .ref a ∧ H1 a = some (.ins C dx fs) ∧ Cls K C ∧ NoAttr K C f ∧ fs.lookup f = some v ∧ Q v H1

def sFld (K : PySem.W.Frag) (ta tv : TE) (f : Str) : TS := fun D σ H => tv σ H fun y H1 => ta σ H1 fun x H2 => ∃ a C dx fs, x = .ref a ∧ H2 a = some (.ins C dx fs) ∧ Cls K C ∧ NoAttr K C f ∧ fs.length < 1000 ∧
  D.nx σ (upd H2 a (.ins C dx (putF f y fs)))

def InOp (X : Cx) (op : Operator) (rd : V → V → Hp → VK → Prop) : Prop :=
  ∀ (pins : List (Addr × Obj)) (s : Shared) (σ : St) (H : Hp) (x y : V) (u v : Value) (Q : VK), Inv X pins σ H s → RelV x u → RelV y v → rd x y H Q → wpAny (model X.prog X.w) X.A (inplaceOp op u v) (EP X pins σ Q) X.xe s

def sFldAug (K : PySem.W.Frag) (ta tv : TE) (rd : V → V → Hp → VK → Prop) (f : Str) : TS := fun D σ H => ta σ H fun x H1 => ∃ a C dx fs v, x = .ref a ∧ H1 a = some (.ins C dx fs) ∧ Cls K C ∧ NoAttr K C f ∧ fs.lookup f = some v ∧
  tv σ H1 fun y H2 => rd v y H2 fun z H3 => ∃ dx' fs', H3 a = some (.ins C dx' fs') ∧ fs'.length < 1000 ∧ D.nx σ (upd H3 a (.ins C dx' (putF f z fs')))

section
variable {X : Cx} {o e value : Expr} {f : Str} {pos pos' tpos : Pos} {ta tv : TE}
theorem pe_fld (he : PE X e ta) (hb : attributeBase e f X.env (eval e X.env) = eval e X.env) : PE X (.Attribute e f pos) (tFld X.K ta f) := by
  intro pins s σ H Q I h
  refine attr_of hb (thn (he pins s σ H _ I h) fun u s1 ⟨x, H1, I1, rx, a, C, dx, fs, v, ex, ea, c, n, l, q⟩ => ?_)
  subst ex
  obtain rfl : u = Value.ref a := rx
  exact getattr_ok I1 ea c n l fun u' s2 I2 ru => ⟨v, H1, I2, ru, q⟩
theorem ps_fld (ha : PE X o ta) (hv : PE X value tv) (hs : swapsWith value (some (.Attribute o f pos')) pos.line X.env = pure false) : PS X (.Assign [.Attribute o f pos'] value pos) (sFld X.K ta tv f) := by
  intro pins s σ H D I h
  refine plainObj_wpAny_Assign_Attribute (thn (hv pins s σ H _ I h) fun u s1 ⟨y, H1, I1, ry, q⟩ => thn (ha pins s1 σ H1 _ I1 q) fun ov s2 ⟨x, H2, I2, rx, a, C, dx, fs, ex, ea, c, n, l, q2⟩ => ?_) hs
  subst ex
  obtain rfl : ov = Value.ref a := rx
  exact setattr_ok I2 ea c n l ry fun s3 I3 => ⟨σ, _, I3, q2⟩
theorem ps_fldaug {op : Operator} {rd : V → V → Hp → VK → Prop} (ha : PE X o ta) (hv : PE X value tv) (hop : InOp X op rd) : PS X (.AugAssign (.Attribute o f tpos) op value pos) (sFldAug X.K ta tv rd f) := by
  intro pins s σ H D I h
  refine wpAny_AugAssign_AttributeAny (thn (ha pins s σ H _ I h) fun ov s1 ⟨x, H1, I1, rx, a, C, dx, fs, v, ex, ea, c, n, l, q⟩ => ?_)
  subst ex
  obtain rfl : ov = Value.ref a := rx
  refine getattr_ok I1 ea c n l fun u s2 I2 ru => thn (hv pins s2 σ H1 _ I2 q) fun w3 s3 ⟨y, H2, I3, ry, q3⟩ => thn (hop pins s3 σ H2 v y u w3 _ I3 ru ry q3) fun w4 s4 ⟨z, H3, I4, rz, dx', fs', ea', l', q4⟩ => ?_
  exact setattr_ok I4 ea' c n l' rz fun s5 I5 => ⟨σ, _, I5, q4⟩
def rAdd : V → V → Hp → VK → Prop := fun x y H Q => ∃ i j, x = .int i ∧ y = .int j ∧ Q (.int (i + j)) H
theorem in_add : InOp X .Add rAdd := by
  rintro pins s σ H x y u v Q I rx ry ⟨i, j, rfl, rfl, q⟩
  obtain ⟨t, rfl⟩ := (show ∃ t, u = Value.int i t from rx)
  obtain ⟨t', rfl⟩ := (show ∃ t', v = Value.int j t' from ry)
  exact PyProof.Rows.iadd_int ⟨.int (i + j), H, I.tok _, ⟨_, rfl⟩, q⟩
end


section
variable {X : Cx} {pins : List (Addr × Obj)} {σ : St} {H : Hp} {s : Shared} {A : Around} {E : Value → Shared → Prop} {Q : Value → Shared → Prop} {c : Value} {b : Bool}

inductive TyOf (K : PySem.W.Frag) (H : Hp) : V → Value → Prop where
  | non : TyOf K H .non (.type "NoneType")
  | bl (x : Bool) : TyOf K H (.bl x) (.type "bool")
  | int (i : Int) : TyOf K H (.int i) (.type "int")
  | str (x : Str) : TyOf K H (.str x) (.type "str")
  | flt (x : UInt64) : TyOf K H (.flt x) (.type "float")
  | lst {a : Addr} {xs : List V} (e : H a = some (.lst xs)) : TyOf K H (.ref a) (.type "list")
  | frz {a : Addr} {o : Obj} {xs : List V} (e : H a = some (.frz o (.lst xs))) : TyOf K H (.ref a) (.type "list")
  | tup {a : Addr} {xs : List V} (e : H a = some (.tup xs)) : TyOf K H (.ref a) (.type "tuple")
  | dK {a : Addr} {kvs : List (Key × V)} (e : H a = some (.dK kvs)) : TyOf K H (.ref a) (.type "dict")
  | dT {a : Addr} {kvs : List (List Key × V)} (e : H a = some (.dT kvs)) : TyOf K H (.ref a) (.type "dict")
  | ins {a C dx : Addr} {fs : List (Str × V)} (e : H a = some (.ins C dx fs)) (cl : Cls K C) (ha : PySem.W.findIn K (.ref C) "__class__" = some (some (.builtin "object.__class__")))
      (hn : PySem.W.specialIn K (.builtin "object.__class__") "__get__" = some (some (.builtin "getset_descriptor.__get__"))) (htk : PySem.W.takesIn K (.builtin "object.__class__") = some true)
      (hm : PySem.W.mroIn K C (.type "object") = some true) : TyOf K H (.ref a) (.ref C)

theorem isinst_ok {x : V} {u t : Value} (I : Inv X pins σ H s) (rx : RelV x u) (ty : TyOf X.K H x t) (e : PySem.W.kitOne X.K t c = some b) (h : ∀ tk, Q (.bool b) { s with toks := tk }) :
    wpAny (model X.prog X.w) A (call (.builtin "isinstance") [u, c]) Q E s := by
  cases ty with
  | non => cases (show u = Value.none from rx); exact PySem.W.kia_one PySem.W.kitx_none I.kIn True.intro e (fun z => nomatch z) h
  | bl y => cases (show u = Value.bool y from rx); exact PySem.W.kia_one PySem.W.kitx_bool I.kIn True.intro e (fun z => nomatch z) h
  | int i => obtain ⟨t, q⟩ := (show ∃ t, u = Value.int i t from rx); cases q; exact PySem.W.kia_one PySem.W.kitx_int I.kIn True.intro e (fun z => nomatch z) h
  | str y => obtain ⟨t, q⟩ := (show ∃ t, u = Value.str y t from rx); cases q; exact PySem.W.kia_one PySem.W.kitx_str I.kIn True.intro e (fun z => nomatch z) h
  | flt y => obtain ⟨t, q⟩ := (show ∃ t, u = Value.float y t from rx); cases q; exact PySem.W.kia_one PySem.W.kitx_float I.kIn True.intro e (fun z => nomatch z) h
  | @lst a xs ea =>
    cases (show u = Value.ref a from rx)
    obtain ⟨_, _, n, _, h1⟩ := (show ObjOk X.prog X.w H s.heap a (.lst xs) from I.hok a _ ea)
    exact PySem.W.kia_one PySem.W.kitx_list I.kIn ⟨_, h1, rfl⟩ e (fun z => nomatch z) h
  | @frz a ob xs ea =>
    cases (show u = Value.ref a from rx)
    obtain ⟨_, _, _, n, _, h1⟩ := (show ObjOk X.prog X.w H s.heap a (.frz ob (.lst xs)) from I.hok a _ ea)
    exact PySem.W.kia_one PySem.W.kitx_list I.kIn ⟨_, h1, rfl⟩ e (fun z => nomatch z) h
  | @tup a xs ea =>
    cases (show u = Value.ref a from rx)
    obtain ⟨_, _, _, p⟩ := (show ObjOk X.prog X.w H s.heap a (.tup xs) from I.hok a _ ea)
    obtain ⟨o, h1, h2, _⟩ := p
    exact PySem.W.kia_one PySem.W.kitx_tuple I.kIn ⟨o, h1, h2⟩ e (fun z => nomatch z) h
  | @dK a kvs ea =>
    cases (show u = Value.ref a from rx)
    obtain ⟨_, _, vs, _, p⟩ := (show ObjOk X.prog X.w H s.heap a (.dK kvs) from I.hok a _ ea)
    obtain ⟨o, es, ep, h1, h2, _⟩ := p
    exact PySem.W.kia_one PySem.W.kitx_dict I.kIn ⟨o, h1, h2.1⟩ e (fun z => nomatch z) h
  | @dT a kvs ea =>
    cases (show u = Value.ref a from rx)
    obtain ⟨_, _, xs, _, o, es, ep, h1, h2, _⟩ := (show ObjOk X.prog X.w H s.heap a (.dT kvs) from I.hok a _ ea)
    exact PySem.W.kia_one PySem.W.kitx_dict I.kIn ⟨o, h1, h2.1⟩ e (fun z => nomatch z) h
  | @ins a C dx fs ea cl ha hn htk hm =>
    cases (show u = Value.ref a from rx)
    obtain ⟨mA, O, _⟩ := ins_get I.hok ea
    obtain ⟨od, J, _⟩ := O.look
    exact PySem.W.kia_one (PySem.W.kitx_own (cl.get _) cl.hd ha hn htk hm) I.kIn J e (fun z => nomatch z) h
end
end L2

namespace L2
open PySem PySem.Spec PyProof.Rows


structure Room (k : Nat) (A : Around) : Prop where
  hd : A.handled = none
  dp : A.depth + 3 * k + 5 < recursionLimit
  un : A.units + 16 * k + 200 < cLine
theorem Room.mono {j k : Nat} {A : Around} (r : Room k A) (h : j ≤ k) : Room j A := ⟨r.hd, by have := r.dp; omega, by have := r.un; omega⟩
theorem Room.deeper {k : Nat} {A : Around} (r : Room (k + 1) A) (env : Env) : Room k (A.deeper env) :=
  ⟨r.hd, by have := r.dp; show A.depth + 1 + 3 * k + 5 < _; omega, by have := r.un; show A.units + 3 + 16 * k + 200 < _; omega⟩
theorem Room.in1 {k : Nat} {A : Around} (r : Room (k + 1) A) : Room k A.in1 :=
  ⟨r.hd, by have := r.dp; show A.depth + 3 * k + 5 < _; omega, by have := r.un; show A.units + 1 + 16 * k + 200 < _; omega⟩
theorem make_depth {A : Around} {C : Addr} {us : List Value} {kw : List (Str × Value)} : (A.under (.builtin "type.__call__" ⟨.ref C :: us, kw⟩)).depth = A.depth + 1 := by
  first | rfl | simp [Around.under, Code.weight, Code.isCreation, Code.isGuard, Code.isCaller, Code.frames, Code.isFrame, guardIds]
theorem make_units {A : Around} {C : Addr} {us : List Value} {kw : List (Str × Value)} : (A.under (.builtin "type.__call__" ⟨.ref C :: us, kw⟩)).units = A.units + 1 := by
  first | rfl | simp [Around.under, Code.cUnits, Code.frames, Code.isFrame]
theorem Room.make {k : Nat} {A : Around} (r : Room (k + 1) A) (C : Addr) (us : List Value) (kw : List (Str × Value)) : Room k (A.under (.builtin "type.__call__" ⟨.ref C :: us, kw⟩)) :=
  ⟨r.hd, by have := r.dp; rw [make_depth]; omega, by have := r.un; rw [make_units]; omega⟩
theorem Room.depth {k : Nat} {A : Around} (r : Room k A) : A.depth < recursionLimit := by have := r.dp; omega
theorem Room.units {k : Nat} {A : Around} (r : Room k A) : A.units + 64 < cLine := by have := r.un; omega
def tNil : TA := fun _ H Q => Q [] H
def tCons (ta : TE) (tr : TA) : TA := fun σ H Q => ta σ H fun x H1 => tr σ H1 fun xs H2 => Q (x :: xs) H2
section
variable {X : Cx} {e : Expr} {es : List Expr} {te : TE} {t : TA} {pos : Pos}
theorem pa_nil : PA X [] tNil := fun _ _ _ _ H Q I h => Calls.spliced_nil ⟨[], H, I, .nil, h⟩
theorem pa_cons (ha : PE X e te) (hr : PA X es t) (hs : starEach (e :: es) X.env = (false, eval e X.env) :: starEach es X.env := by rfl) : PA X (e :: es) (tCons te t) := by
  intro pos pins s σ H Q I h
  rw [hs]
  show wpAny _ _ (spliced ((false, eval e X.env) :: backTo pos (starEach es X.env))) _ _ s
  refine Calls.spliced_cons (thn (ha pins s σ H _ I h) fun u s1 ⟨x, H1, I1, r1, q1⟩ => ?_)
  exact thn (hr pos pins s1 σ H1 _ I1 q1) fun us s2 ⟨xs, H2, I2, r2, q2⟩ => ⟨x :: xs, H2, I2, .cons r1 r2, q2⟩


def tTup (t : TA) : TE := fun σ H Q => t σ H fun xs H1 => xs.length ≤ sizeLine ∧ ∀ p, H1 p = none → Q (.ref p) (upd H1 p (.tup xs))
def tLst (t : TA) : TE := fun σ H Q => t σ H fun xs H1 => xs.length ≤ sizeLine ∧ ∀ p, H1 p = none → Q (.ref p) (upd H1 p (.lst xs))
theorem pe_tup {x1} (h : PA X es t) : PE X (.Tuple es x1 pos) (tTup t) := by
  intro pins s σ H Q I hq
  refine wpAny_Tuple_spliced (thn (h pos pins s σ H _ I hq) fun us s1 ⟨xs, H1, I1, r, z, q⟩ => ⟨by rw [← r.length]; exact z, ?_⟩)
  have hf : H1 s1.heap.objs.size = none := I1.hok.fresh (Nat.le_refl _)
  refine ⟨.ref s1.heap.objs.size, upd H1 s1.heap.objs.size (.tup xs), I1.laid (t' := s1.toks) (fun b u e => Heap.get?_push_of_some _ e) (Nat.le_refl _) ?_, rfl, q _ hf⟩
  exact ⟨z, us, r, ⟨_, Heap.get?_push_size _ rfl, rfl, _, rfl⟩⟩
theorem pe_lst (h : PA X es t) : PE X (.List es pos) (tLst t) := by
  intro pins s σ H Q I hq
  refine wpAny_List_spliced (thn (h pos pins s σ H _ I hq) fun us s1 ⟨xs, H1, I1, r, z, q⟩ => ⟨by rw [← r.length]; exact z, ?_⟩)
  have hf : H1 s1.heap.objs.size = none := I1.hok.fresh (Nat.le_refl _)
  refine ⟨.ref s1.heap.objs.size, upd H1 s1.heap.objs.size (.lst xs), I1.laid (t' := s1.toks) (fun b u e => Heap.get?_push_of_some _ e) (Nat.le_refl _) ?_, rfl, q _ hf⟩
  exact ⟨z, us, 0, r, Heap.get?_push_size _ rfl⟩
end



abbrev Sp := List V → Hp → VK → XK → Prop

abbrev CXT := List Env → Hp → Shared → XK → Value → Shared → Prop


structure Env0 (P : Program) (w : World) (K : PySem.W.Frag) (mg : Str → Option Value) (base : Heap) (A : Around) (outer : List Env) (s : Shared) (H : Hp) : Prop where
  frames : A.frames = some outer
  mod : Mod K mg base
  bs : ∀ b o, base.get? b = some o → s.heap.get? b = some o ∧ H b = none
  bsz : base.objs.size ≤ s.heap.objs.size
  funs : s.heap.FunFrames base outer
  frf : ∀ b ∈ frs outer, H b = none
  hok : HOk P w H s.heap
  bare : AllBare s.gens

def CE (outer : List Env) (P : Program) (w : World) (H : Hp) (s : Shared) (Q : VK) (u : Value) (s' : Shared) : Prop :=
  ∃ v H', s'.os = s.os ∧ AllBare s'.gens ∧ Un (frs outer) [] H H' s.heap s'.heap ∧ HOk P w H' s'.heap ∧ RelV v u ∧ Q v H'
def CR (CX : CXT) (outer : List Env) (P : Program) (w : World) (H : Hp) (s : Shared) (Q : VK) (E : XK) (r : Result) (s' : Shared) : Prop :=
  match r with
  | .ok (.ret u) => CE outer P w H s Q u s'
  | .ok _ => False
  | .error e => CX outer H s E e s'
structure FnOk (P : Program) (w : World) (K : PySem.W.Frag) (mg : Str → Option Value) (base : Heap) (CX : CXT) (k : Nat) (f : Addr) (fd : FuncData) (ps : List Str) (sp : Sp) : Prop where
  len : ∀ vs H Q E, sp vs H Q E → vs.length = ps.length
  run : ∀ (A : Around) (outer : List Env) (s : Shared) (H : Hp) (args : Args) (us : List Value) (vs : List V) (Q : VK) (E : XK), Room k A → Env0 P w K mg base A outer s H → BindsTo s fd args (ps.zip us) → Vals vs us → sp vs H Q E →
    codeAny (model P w) A (.call (.ref f) args) (CR CX outer P w H s Q E) s
theorem FnOk.mono {P : Program} {w : World} {K : PySem.W.Frag} {mg : Str → Option Value} {base : Heap} {CX : CXT} {j k : Nat} {f : Addr} {fd : FuncData} {ps : List Str} {sp : Sp} (F : FnOk P w K mg base CX j f fd ps sp) (h : j ≤ k) :
    FnOk P w K mg base CX k f fd ps sp := ⟨F.len, fun A outer s H args us vs Q E hr => F.run A outer s H args us vs Q E (hr.mono h)⟩

theorem Env0.make {P : Program} {w : World} {K : PySem.W.Frag} {mg : Str → Option Value} {base : Heap} {A : Around} {outer : List Env} {s : Shared} {H : Hp} (e : Env0 P w K mg base A outer s H) (C : Addr) (us : List Value) (kw : List (Str × Value)) :
    Env0 P w K mg base (A.under (.builtin "type.__call__" ⟨.ref C :: us, kw⟩)) outer s H := ⟨by first | exact e.frames | (simpa [Around.under, Code.envs, Code.isFrame, pushEnvs] using e.frames), e.mod, e.bs, e.bsz, e.funs, e.frf, e.hok, e.bare⟩
theorem Env0.in1 {P : Program} {w : World} {K : PySem.W.Frag} {mg : Str → Option Value} {base : Heap} {A : Around} {outer : List Env} {s : Shared} {H : Hp} (e : Env0 P w K mg base A outer s H) :
    Env0 P w K mg base A.in1 outer s H := ⟨e.frames, e.mod, e.bs, e.bsz, e.funs, e.frf, e.hok, e.bare⟩

section
variable {X : Cx} {pins : List (Addr × Obj)} {σ : St} {H : Hp} {s s' : Shared}

theorem Inv.env0 (I : Inv X pins σ H s) : Env0 X.prog X.w X.K X.mg X.base X.A X.stack s H :=
  ⟨I.ok.frames, I.ok.mod, I.bs, Nat.le_trans I.ok.bsz I.sz, I.stack, I.stkFree, I.hok, I.bare⟩

theorem Inv.after {Q : VK} {u : Value} (I : Inv X pins σ H s) (h : CE X.stack X.prog X.w H s Q u s') : EP X pins σ Q u s' := by
  obtain ⟨v, H', os, bare, un, hok, r, q⟩ := h
  obtain ⟨hh, g, d, t, os'⟩ := s'
  obtain rfl : os' = s.os := os
  exact ⟨v, H', I.call (h' := hh) (g' := g) (d' := d) (t' := t) (ch := []) un hok bare (fun b z => absurd z (by simp)), r, q⟩
end



def tCall (sp : Sp) (dvs : List V) (E : XK) (t : TA) : TE := fun σ H Q => t σ H fun vs H1 => sp (vs ++ dvs) H1 Q E

def tMeth (C : Addr) (m : Str) (sp : Sp) (dvs : List V) (E : XK) (ta : TE) (t : TA) : TE := fun σ H Q => ta σ H fun x H1 => ∃ a dx fs, x = .ref a ∧ H1 a = some (.ins C dx fs) ∧ fs.lookup m = none ∧
  t σ H1 fun vs H2 => sp (x :: (vs ++ dvs)) H2 Q E

def tMake (C : Addr) (sp : Sp) (dvs : List V) (E : XK) (t : TA) : TE := fun σ H Q => t σ H fun vs H1 => ∀ x dx, H1 x = none → H1 dx = none → dx ≠ x →
  sp (.ref x :: (vs ++ dvs)) (upd (upd H1 dx (.own x)) x (.ins C dx [])) (fun v H2 => v = .non ∧ Q (.ref x) H2) E


def Binds (K : PySem.W.Frag) (fd : FuncData) (ps : List Str) (ds : List Value) : Prop :=
  ∀ (s : Shared) (us : List Value), K.In s.heap → (us ++ ds).length = ps.length → BindsTo s fd ⟨us, []⟩ (ps.zip (us ++ ds))

theorem Binds.all {K : PySem.W.Frag} {fd : FuncData} {ps : List Str} (h : ∀ us : List Value, us.length = ps.length → bindArgs fd ⟨us, []⟩ = pure (ps.zip us)) : Binds K fd ps [] := fun s us _ hl => by
  rw [List.append_nil] at hl ⊢
  exact .of_eq (h us hl)


def Passes (CX : CXT) (X : Cx) (E : XK) : Prop := ∀ (pins : List (Addr × Obj)) (σ : St) (H : Hp) (s : Shared) (e : Value) (s' : Shared), Inv X pins σ H s → CX X.stack H s E e s' → X.xe e s'

section
variable {X : Cx} {CX : CXT} {k : Nat} {f C : Addr} {fd : FuncData} {ps : List Str} {sp : Sp} {dvs : List V} {ds : List Value} {E : XK} {x m : Str} {p pos apos : Pos} {e o : Expr} {es : List Expr} {ta : TE} {t : TA}


theorem run_fn {pins : List (Addr × Obj)} {σ : St} {H : Hp} {s : Shared} {Q : VK} {us : List Value} {vs : List V} (F : FnOk X.prog X.w X.K X.mg X.base CX k f fd ps sp) (hr : Room k X.A) (hb : Binds X.K fd ps ds) (hd : Vals dvs ds) (hx : Passes CX X E)
    (I : Inv X pins σ H s) (r : Vals vs us) (h : sp (vs ++ dvs) H Q E) : wpAny (model X.prog X.w) X.A (call (.ref f) us) (EP X pins σ Q) X.xe s := by
  have r2 : Vals (vs ++ dvs) (us ++ ds) := r.append hd
  have hl : (us ++ ds).length = ps.length := by rw [← r2.length]; exact F.len _ _ _ _ h
  refine wpAny_call (codeAny_mono (F.run X.A X.stack s H ⟨us, []⟩ (us ++ ds) (vs ++ dvs) Q E hr I.env0 (hb s us I.kIn hl) r2 h) fun r s' hq => ?_)
  cases r with
  | error e => exact hx pins σ H s e s' I hq
  | ok fl =>
    cases fl with
    | ret u => exact I.after hq
    | next => exact False.elim hq
    | brk => exact False.elim hq
    | cont => exact False.elim hq

theorem pe_call (F : FnOk X.prog X.w X.K X.mg X.base CX k f fd ps sp) (hr : Room k X.A) (hg : Gl X x) (hm : X.mg x = some (.ref f)) (hk : PySem.W.keepIn X.K (.ref f) = true) (hb : Binds X.K fd ps ds) (hd : Vals dvs ds) (hx : Passes CX X E)
    (ha : PA X (e :: es) t) (hdb : (x == ("__debug__" : Str)) = false := by decide) (he : starEach (e :: es) X.env = (false, eval e X.env) :: starEach es X.env := by rfl) (hpl : (backTo pos (starEach es X.env)).any (·.1) = false := by rfl) :
    PE X (.Call (.Name x p) (e :: es) [] pos) (tCall sp dvs E t) := by
  intro pins s σ H Q I h
  refine wpAny_Call_Name_kw (ld_glob I hg hm ?_ hdb)
  refine PySem.W.callWith_K (h₀ := X.base) I.ok.mod.kin hk (thn (ha pos pins s σ H _ I h) fun us s1 ⟨vs, H1, I1, r, q⟩ => ⟨I1.kIn, ?_⟩) he hpl
  exact run_fn F hr hb hd hx I1 r q
theorem pe_meth {pl : Sem Bool} (he : PE X o ta) (c : Cls X.K C) (hm : Meth X.K C m f) (F : FnOk X.prog X.w X.K X.mg X.base CX k f fd ps sp) (hr : Room k X.A) (hb : Binds X.K fd ps ds) (hd : Vals dvs ds) (hx : Passes CX X E) (ha : PA X (e :: es) t)
    (hst : starEach (e :: es) X.env = (false, eval e X.env) :: starEach es X.env := by rfl) (hpl : (backTo pos (starEach es X.env)).any (·.1) = false := by rfl)
    (ht : eval (.Call (.Attribute o m apos) (e :: es) [] pos) X.env = (do
      let ov ← eval o X.env
      standAt apos.atName
      let (f, first) ← holding [ov] (getMethod ov m pl)
      callWith pos f first (backTo pos (starEach (e :: es) X.env)) (backToKw pos (keywordEach [] X.env))) := by rfl) :
    PE X (.Call (.Attribute o m apos) (e :: es) [] pos) (tMeth C m sp dvs E ta t) := by
  intro pins s σ H Q I h
  refine PySem.W.methodCall_KW (pl := pl) (thn (he pins s σ H _ I h) fun u s1 ⟨x, H1, I1, rx, a, dx, fs, ex, ea, l, q⟩ => ?_) ht
  subst ex
  obtain rfl : u = Value.ref a := rx
  refine getmeth_ok I1 ea c hm l ?_
  refine PySem.W.callWith_K (first := [.ref a]) (h₀ := X.base) I.ok.mod.kin hm.kp (thn (ha pos pins s1 σ H1 _ I1 q) fun us s2 ⟨vs, H2, I2, r, q2⟩ => ⟨I2.kIn, ?_⟩) hst hpl
  exact run_fn (us := .ref a :: us) (vs := .ref a :: vs) F hr hb hd hx I2 (.cons rfl r) q2

theorem pe_meth0 {pl : Sem Bool} (he : PE X o ta) (c : Cls X.K C) (hm : Meth X.K C m f) (F : FnOk X.prog X.w X.K X.mg X.base CX k f fd ps sp) (hr : Room k X.A) (hb : Binds X.K fd ps ds) (hd : Vals dvs ds) (hx : Passes CX X E)
    (ht : eval (.Call (.Attribute o m apos) [] [] pos) X.env = (do
      let ov ← eval o X.env
      standAt apos.atName
      let (f, first) ← holding [ov] (getMethod ov m pl)
      callWith pos f first (backTo pos (starEach [] X.env)) (backToKw pos (keywordEach [] X.env))) := by rfl) :
    PE X (.Call (.Attribute o m apos) [] [] pos) (tMeth C m sp dvs E ta tNil) := by
  intro pins s σ H Q I h
  refine PySem.W.methodCall_KW (pl := pl) (thn (he pins s σ H _ I h) fun u s1 ⟨x, H1, I1, rx, a, dx, fs, ex, ea, l, q⟩ => ?_) ht
  subst ex
  obtain rfl : u = Value.ref a := rx
  refine getmeth_ok I1 ea c hm l ?_
  exact PySem.W.callWith_K0 (first := [.ref a]) I1.kIn hm.kp (run_fn (us := [.ref a]) (vs := [.ref a]) F hr hb hd hx I1 (.cons rfl .nil) q)


structure Mk (K : PySem.W.Frag) (C f : Addr) : Prop where
  makes : PySem.W.makesIn K C = true
  init : PySem.W.findIn K (.ref C) "__init__" = some (some (.ref f))
  fn : PySem.W.isFn K (.ref f) = true
  kp : PySem.W.keepIn K (.ref C) = true

theorem run_make {pins : List (Addr × Obj)} {σ : St} {H : Hp} {s : Shared} {Q : VK} {us : List Value} {vs : List V} (M : Mk X.K C f) (F : FnOk X.prog X.w X.K X.mg X.base CX k f fd ps sp) (hr : Room (k + 1) X.A) (hb : Binds X.K fd ps ds) (hd : Vals dvs ds)
    (hx : Passes CX X E) (I : Inv X pins σ H s) (r : Vals vs us)
    (h : ∀ x dx, H x = none → H dx = none → dx ≠ x → sp (.ref x :: (vs ++ dvs)) (upd (upd H dx (.own x)) x (.ins C dx [])) (fun v H2 => v = .non ∧ Q (.ref x) H2) E) :
    wpAny (model X.prog X.w) X.A (call (.ref C) us) (EP X pins σ Q) X.xe s := by
  have hq := h (s.heap.objs.size + 1) s.heap.objs.size (I.hok.fresh (Nat.le_succ _)) (I.hok.fresh (Nat.le_refl _)) (Nat.ne_of_lt (Nat.lt_succ_self _))
  have I2 := Inv.made (C := C) I
  have r2 : Vals (V.ref (s.heap.objs.size + 1) :: (vs ++ dvs)) (Value.ref (s.heap.objs.size + 1) :: (us ++ ds)) := .cons rfl (r.append hd)
  have hl : (Value.ref (s.heap.objs.size + 1) :: us ++ ds).length = ps.length := by
    have e := r2.length
    rw [F.len _ _ _ _ hq] at e
    exact e.symm
  refine wpAny_call (make_map (f := f) I.kIn M.makes M.init (beq_iff_eq.mp M.fn) (codeAny_mono (F.run _ X.stack _ _ ⟨Value.ref (s.heap.objs.size + 1) :: us, []⟩ (Value.ref (s.heap.objs.size + 1) :: (us ++ ds)) _ _ E (hr.make C us [])
    (I2.env0.make C us []) (hb _ (Value.ref (s.heap.objs.size + 1) :: us) I2.kIn hl) r2 hq) fun r s' hq' => ?_))
  cases r with
  | error e => exact hx pins σ _ _ e s' I2 hq'
  | ok fl =>
    cases fl with
    | ret u =>
      obtain ⟨v, H', I3, rv, ev, q3⟩ := I2.after hq'
      subst ev
      exact ⟨rv, ⟨V.ref (s.heap.objs.size + 1), H', I3, rfl, q3⟩⟩
    | next => exact False.elim hq'
    | brk => exact False.elim hq'
    | cont => exact False.elim hq'
theorem pe_make (M : Mk X.K C f) (F : FnOk X.prog X.w X.K X.mg X.base CX k f fd ps sp) (hr : Room (k + 1) X.A) (hg : Gl X x) (hm : X.mg x = some (.ref C)) (hb : Binds X.K fd ps ds) (hd : Vals dvs ds) (hx : Passes CX X E)
    (ha : PA X (e :: es) t) (hdb : (x == ("__debug__" : Str)) = false := by decide) (he : starEach (e :: es) X.env = (false, eval e X.env) :: starEach es X.env := by rfl) (hpl : (backTo pos (starEach es X.env)).any (·.1) = false := by rfl) :
    PE X (.Call (.Name x p) (e :: es) [] pos) (tMake C sp dvs E t) := by
  intro pins s σ H Q I h
  refine wpAny_Call_Name_kw (ld_glob I hg hm ?_ hdb)
  refine PySem.W.callWith_K (h₀ := X.base) I.ok.mod.kin M.kp (thn (ha pos pins s σ H _ I h) fun us s1 ⟨vs, H1, I1, r, q⟩ => ⟨I1.kIn, ?_⟩) he hpl
  exact run_make M F hr hb hd hx I1 r q
end



section
variable {X : Cx} {CX : CXT} {k : Nat} {f C : Addr} {fd : FuncData} {ps ks : List Str} {sp : Sp} {E : XK} {x m : Str} {p pos apos kpos : Pos} {e o : Expr} {es : List Expr} {kws : List Keyword} {te ta : TE} {t tk : TA} {nm : Option Str}
structure KBinds (K : PySem.W.Frag) (fd : FuncData) (ps ks : List Str) (g : List Value → List Value → List Value) (gV : List V → List V → List V) : Prop where
  to : ∀ (s : Shared) (us ws : List Value), K.In s.heap → (g us ws).length = ps.length → BindsTo s fd ⟨us, ks.zip ws⟩ (ps.zip (g us ws))
  rel : ∀ {vs : List V} {us : List Value} {zs : List V} {ws : List Value}, Vals vs us → Vals zs ws → Vals (gV vs zs) (g us ws)
variable {g : List Value → List Value → List Value} {gV : List V → List V → List V}
end



structure FnScope (N P : List Str) (sc : Scope) : Prop where
  kind : sc.kind = .function
  co : sc.isCoroutine = false
  gen : sc.isGenerator = false
  nd : N.Nodup
  pre : N.take P.length = P
  par : ∀ x ∈ P, sc.names.lookup x = some .local ∨ sc.names.lookup x = some .cell
  nofree : ∀ y ∈ sc.names, y.2 ≠ .free

theorem bindL_out {kindOf : Str → Option NameKind} {x : Str} : ∀ {binds : List (Str × Value)} {m : Str → Option Value}, (∀ v, (x, v) ∉ binds) → bindL kindOf binds m x = m x
  | [], _, _ => rfl
  | (n, v) :: r, m, h => by
    unfold bindL
    rw [bindL_out fun w hw => h w (List.mem_cons_of_mem _ hw)]
    split
    · have : x ≠ n := by rintro rfl; exact h v List.mem_cons_self
      simp [this]
    · rfl
theorem bindC_out {kindOf : Str → Option NameKind} {x : Str} : ∀ {binds : List (Str × Value)} {m : Str → Option Value}, (∀ v, (x, v) ∉ binds) → bindC kindOf binds m x = m x
  | [], _, _ => rfl
  | (n, v) :: r, m, h => by
    unfold bindC
    rw [bindC_out fun w hw => h w (List.mem_cons_of_mem _ hw)]
    split
    · rfl
    · have : x ≠ n := by rintro rfl; exact h v List.mem_cons_self
      simp [this]
theorem bindL_get {kindOf : Str → Option NameKind} {x : Str} {v : Value} : ∀ {P : List Str} {vs : List Value} {i : Nat} {m : Str → Option Value}, P.Nodup → P[i]? = some x → vs[i]? = some v → kindOf x = some .local →
    bindL kindOf (P.zip vs) m x = some v
  | [], _, _, _, _, h, _, _ => by simp at h
  | _ :: _, [], _, _, _, _, h, _ => by simp at h
  | p :: P, w :: vs, 0, m, nd, h1, h2, hk => by
    simp at h1 h2; subst h1; subst h2
    show bindL kindOf ((p, w) :: P.zip vs) m p = _
    unfold bindL
    rw [bindL_out fun v hv => (List.nodup_cons.mp nd).1 (List.of_mem_zip hv).1, if_pos hk]
    simp
  | p :: P, w :: vs, i + 1, m, nd, h1, h2, hk => by
    show bindL kindOf ((p, w) :: P.zip vs) m x = _
    unfold bindL
    exact bindL_get (i := i) (List.nodup_cons.mp nd).2 (by simpa using h1) (by simpa using h2) hk
theorem bindC_get {kindOf : Str → Option NameKind} {x : Str} {v : Value} : ∀ {P : List Str} {vs : List Value} {i : Nat} {m : Str → Option Value}, P.Nodup → P[i]? = some x → vs[i]? = some v → kindOf x ≠ some .local →
    bindC kindOf (P.zip vs) m x = some v
  | [], _, _, _, _, h, _, _ => by simp at h
  | _ :: _, [], _, _, _, _, h, _ => by simp at h
  | p :: P, w :: vs, 0, m, nd, h1, h2, hk => by
    simp at h1 h2; subst h1; subst h2
    show bindC kindOf ((p, w) :: P.zip vs) m p = _
    unfold bindC
    rw [bindC_out fun v hv => (List.nodup_cons.mp nd).1 (List.of_mem_zip hv).1, if_neg hk]
    simp
  | p :: P, w :: vs, i + 1, m, nd, h1, h2, hk => by
    show bindC kindOf ((p, w) :: P.zip vs) m x = _
    unfold bindC
    exact bindC_get (i := i) (List.nodup_cons.mp nd).2 (by simpa using h1) (by simpa using h2) hk


def start (N : List Str) (vs : List V) : St := vs.map some ++ List.replicate (N.length - vs.length) none


def cxOf (CX : CXT) (P : Program) (w : World) (K : PySem.W.Frag) (mg : Str → Option Value) (base : Heap) (N : List Str) (qual : Str) (scope : Scope) (f : Addr) (cd : Value) (A : Around) (outer : List Env) (s : Shared) (H : Hp) (E : XK) : Cx where
  prog := P
  w := w
  K := K
  mg := mg
  base := base
  A := A.deeper (envOfC qual scope s.heap.objs.size f cd)
  N := N
  s₀ := s
  H₀ := H
  env := envOfC qual scope s.heap.objs.size f cd
  outer := outer
  stack := envOfC qual scope s.heap.objs.size f cd :: outer
  ex := []
  calm := true
  fn := fun _ => true
  pn := []
  xe := fun e s' => wpAny (model P w) (A.deeper (envOfC qual scope s.heap.objs.size f cd)) (leaving (envOfC qual scope s.heap.objs.size f cd) e) (fun _ s'' => CX outer H s E e s'') (fun e' s'' => CX outer H s E e' s'') s'

theorem cell_has {sc : Scope} {n : Nat} {x : Str} (h : sc.names.lookup x = some .cell) : ∃ c, (cellsFrom n sc.names []).lookup x = some c := by
  have q := PySem.W.cellsFrom_some sc.names n [] (.inl h)
  exact Option.isSome_iff_exists.mp q

theorem inv_start {CX : CXT} {P : Program} {w : World} {K : PySem.W.Frag} {mg : Str → Option Value} {base : Heap} {N ps : List Str} {qual : Str} {scope : Scope} {f : Addr} {cd : Value} {A : Around} {outer : List Env} {s s1 : Shared} {H : Hp} {E : XK} {us : List Value} {vs : List V}
    (S : FnScope N ps scope) (hd : A.handled = none) (e0 : Env0 P w K mg base A outer s H) (hl : vs.length = ps.length) (r : Vals vs us)
    (x : InCallC s s.heap.objs.size (bindL (envOfC qual scope s.heap.objs.size f cd).kindOf (ps.zip us) fun _ => none) (cellsFrom (s.heap.objs.size + 1) scope.names []) (bindC (envOfC qual scope s.heap.objs.size f cd).kindOf (ps.zip us) fun _ => none) s1) :
    Inv (cxOf CX P w K mg base N qual scope f cd A outer s H E) [] (start N vs) H s1 := by
  have hpl : ps.length ≤ N.length := by have := congrArg List.length S.pre; rw [List.length_take] at this; omega
  obtain ⟨h1, tk, rfl, hk⟩ := x.done
  have noA : ∀ b : Addr, b ∉ (cxOf CX P w K mg base N qual scope f cd A outer s H E).ex := fun b z => absurd (show b ∈ ([] : List Addr) from z) (by simp)
  refine ⟨⟨e0.mod, S.kind, rfl, rfl, Nat.le_refl _, fun y z c h1 h2 => ?_, fun y hy => ?_, fun y c _ h => ?_, fun _ => hd, Around.frames_deeper e0.frames, .inr ⟨rfl, rfl⟩, fun b z => absurd z (noA b), e0.bs, e0.bsz, fun b _ _ => noA b, fun b z => absurd z (noA b), e0.funs, e0.frf⟩,
    rfl, e0.bare, Un.kept hk, ⟨_, x.toInCall.ns, fun i y v h1 h2 h3 => ?_⟩, fun y c h => ⟨_, x.cell y c h⟩, e0.hok.fresh (Nat.le_refl _), fun y c h => ?_, fun p hp => absurd (show p ∈ ([] : List (Addr × Obj)) from hp) (by simp), e0.hok.kept hk, ?_⟩
  · exact name_of_addr x.apart (PySem.mem_of_lookup h1) (PySem.mem_of_lookup h2)
  · have hy : scope.names.lookup y = some .cell ∨ scope.names.lookup y = some .free := hy
    rcases hy with hy | hy
    · exact cell_has hy
    · exact absurd rfl (S.nofree _ (PySem.mem_of_lookup hy))
  · exact Nat.le_of_lt (x.above y c (PySem.mem_of_lookup h))
  · have hi : i < vs.length := by
      unfold start at h2
      by_cases hi : i < vs.length
      · exact hi
      · rw [List.getElem?_append_right (by simpa using hi)] at h2
        rw [List.getElem?_replicate] at h2
        split at h2 <;> cases h2
    have ha : vs[i]? = some v := by
      unfold start at h2
      rw [List.getElem?_append_left (by simpa using hi), List.getElem?_map] at h2
      cases e : vs[i]? with
      | none => rw [e] at h2; cases h2
      | some a => rw [e] at h2; cases h2; rfl
    obtain ⟨u, hu, rv⟩ := r.get ha
    have hp : ps[i]? = some y := by
      rw [← S.pre, List.getElem?_take_of_lt (by omega)]; exact h1
    have ndP : ps.Nodup := by rw [← S.pre]; exact S.nd.sublist (List.take_sublist _ _)
    refine ⟨u, rv, ?_⟩
    rcases S.par y (List.mem_of_getElem? hp) with k | k
    · exact .inl ⟨k, bindL_get ndP hp hu k⟩
    · obtain ⟨c, e⟩ := cell_has (n := s.heap.objs.size + 1) k
      refine .inr ⟨.inl k, c, e, ?_⟩
      have q := x.cell y c e
      rw [bindC_get ndP hp hu (by show scope.names.lookup y ≠ _; rw [k]; decide)] at q
      exact q
  · exact e0.hok.fresh (Nat.le_of_lt (x.above y c (PySem.mem_of_lookup h)))
  · unfold start
    show _ = N.length
    rw [List.length_append, List.length_map, List.length_replicate]
    omega


theorem fn_of {CX : CXT} {P : Program} {w : World} {K : PySem.W.Frag} {mg : Str → Option Value} {base : Heap} {k : Nat} {f : Addr} {name qual : Str} {params : Arguments} {body : List Stmt} {scope : Scope} {dV kV doc pm cdv ct oc : Value} {an od : Option Addr}
    {osl : Array (Option Value)} {N ps : List Str} {sp : Sp} (lk : K.lookup f = some ⟨oc, od, .func (PySem.W.fnOf name qual params body scope dV kV doc pm an cdv ct), osl⟩) (hcd : PySem.W.codeIn K cdv qual = true) (S : FnScope N ps scope)
    (len : ∀ vs H Q E, sp vs H Q E → vs.length = ps.length)
    (hbody : ∀ (A : Around) (outer : List Env) (s : Shared) (H : Hp) (vs : List V) (Q : VK) (E : XK), Room k (A.deeper (envOfC qual scope s.heap.objs.size f cdv)) → sp vs H Q E →
      ∃ t, PSs (cxOf CX P w K mg base N qual scope f cdv A outer s H E) body t ∧ t { nx := fun _ H' => Q .non H', rt := Q } (start N vs) H) :
    FnOk P w K mg base CX (k + 1) f (PySem.W.fnOf name qual params body scope dV kV doc pm an cdv ct) ps sp := by
  refine ⟨len, fun A outer s H args us vs Q E hr e0 hb r hsp => ?_⟩
  have hl := len _ _ _ _ hsp
  have KX : K.In s.heap := e0.mod.kin.keeps fun b o e => (e0.bs b o e).1
  have lim : s.heap.NoLimit := e0.mod.nolimit.keeps fun b o e => (e0.bs b o e).1
  have hkind : ∀ y ∈ ps.zip us, scope.names.lookup y.1 = some .local ∨ (scope.names.lookup y.1 = some .cell ∧ ((cellsFrom (s.heap.objs.size + 1) scope.names []).lookup y.1).isSome = true) := fun ⟨n, v⟩ hy => by
    rcases S.par n (List.of_mem_zip hy).1 with q | q
    · exact .inl q
    · exact .inr ⟨q, PySem.W.cellsFrom_some _ _ _ (.inl q)⟩
  refine codeAny_call_function hr.depth (KX _ _ lk) rfl S.co S.gen rfl (PySem.W.codeRec_of KX hcd) (hb _ _ _ _ ?_)
  refine wpAny_newFunctionEnv_cells S.kind hkind fun env he s1 x => ?_
  subst he
  refine ⟨lim.keeps x.toInCall.keep, codeAny_func ?_⟩
  obtain ⟨t, ht, hq⟩ := hbody A outer s H vs Q E (hr.deeper _) hsp
  have I : Inv (cxOf CX P w K mg base N qual scope f cdv A outer s H E) [] (start N vs) H s1 := inv_start S hr.hd e0 hl r x
  refine wpAny_mono (ht [] s1 (start N vs) H _ I hq) (fun fl s' hs => ?_) fun e s' hs => hs
  have fin : ∀ {σ' : St} {H' : Hp} {v : V} {u : Value}, Inv (cxOf CX P w K mg base N qual scope f cdv A outer s H E) [] σ' H' s' → RelV v u → Q v H' → CE outer P w H s Q u s' :=
    fun {σ' H' v u} J rv q => ⟨v, H', J.os, J.bare, J.base, J.hok, rv, q⟩
  cases fl with
  | ret u =>
    obtain ⟨v, σ', H', J, rv, q⟩ := hs
    exact fin J rv q
  | next =>
    obtain ⟨σ', H', J, q⟩ := hs
    exact fin (v := V.non) (u := Value.none) J rfl q
  | brk =>
    obtain ⟨_, _, _, q⟩ := hs
    exact False.elim q
  | cont =>
    obtain ⟨_, _, _, q⟩ := hs
    exact False.elim q
end L2

namespace L2
open PySem PySem.Spec PyProof.Rows
section
variable {X : Cx} {x : Str} {p pos : Pos} {e : Expr} {es : List Expr} {t : TA} {id T : String} {r : List V → Hp → VK → Prop}

def tCB (r : List V → Hp → VK → Prop) (t : TA) : TE := fun σ H Q => t σ H fun vs H1 => r vs H1 Q

theorem pe_callB (hc : CallR X (.builtin id) r) (hg : Gl X x) (hm : X.mg x = none) (hv : bootBuiltins x = some (.builtin id)) (ha : PA X (e :: es) t) (hn : x ≠ "__name__" := by decide) (hdb : (x == ("__debug__" : Str)) = false := by decide)
    (he : starEach (e :: es) X.env = (false, eval e X.env) :: starEach es X.env := by rfl) (hpl : (backTo pos (starEach es X.env)).any (·.1) = false := by rfl) : PE X (.Call (.Name x p) (e :: es) [] pos) (tCB r t) := by
  intro pins s σ H Q I h
  refine wpAny_Call_Name_kw (ld_blt I hg hm hv ?_ hn hdb)
  exact PyProof.Rows.callWith_builtin1 (thn (ha pos pins s σ H _ I h) fun us s1 ⟨vs, H1, I1, r1, q1⟩ => hc pins s1 σ H1 vs us Q I1 r1 q1) he hpl

theorem pe_callTy (hc : CallR X (.type T) r) (hg : Gl X x) (hm : X.mg x = none) (hv : bootBuiltins x = some (.type T)) (ha : PA X (e :: es) t) (hn : x ≠ "__name__" := by decide) (hdb : (x == ("__debug__" : Str)) = false := by decide)
    (he : starEach (e :: es) X.env = (false, eval e X.env) :: starEach es X.env := by rfl) (hpl : (backTo pos (starEach es X.env)).any (·.1) = false := by rfl) : PE X (.Call (.Name x p) (e :: es) [] pos) (tCB r t) := by
  intro pins s σ H Q I h
  refine wpAny_Call_Name_kw (ld_blt I hg hm hv ?_ hn hdb)
  exact PyProof.Rows.callWith_type1 (thn (ha pos pins s σ H _ I h) fun us s1 ⟨vs, H1, I1, r1, q1⟩ => hc pins s1 σ H1 vs us Q I1 r1 q1) he hpl

end
end L2

namespace HT
open PySem PyProof.Rows


section
open PySem.SeqAt
open PySem.AutoSeq1 (wpAny_loadPart')
open PySem.MeetsSeq PySem.MeetsSeq2 PySem.MeetsSeq3

end

section
variable {prog : Program} {w : World} {A : Around} {E : Value → Shared → Prop} {s : Shared}

def sIx (n d : Nat) : Option Int → Nat
  | none => d
  | some v => if v < 0 then (v + (n : Int)).toNat else min v.toNat n
theorem sIx_nat (n d k : Nat) : sIx n d (some (k : Int)) = min k n := by
  show (if (k : Int) < 0 then ((k : Int) + (n : Int)).toNat else min (k : Int).toNat n) = min k n
  rw [if_neg (by omega), Int.toNat_natCast]
end
end HT

namespace L2
open PySem PySem.Spec PyProof.Rows


abbrev TO := St → Hp → (Option Int → Hp → Prop) → Prop

def PO (X : Cx) (e : Option Expr) (t : TO) : Prop :=
  ∀ (pins : List (Addr × Obj)) (s : Shared) (σ : St) (H : Hp) (Q : Option Int → Hp → Prop), Inv X pins σ H s → t σ H Q →
    wpAny (model X.prog X.w) X.A (evalPart e X.env) (fun u s' => ∃ o H', Inv X pins σ H' s' ∧ IsPart u o ∧ Q o H') X.xe s
def tNoPart : TO := fun _ H Q => Q none H
def tPart (t : TE) : TO := fun σ H Q => t σ H fun x H1 => ∃ i, x = .int i ∧ Q (some i) H1

section
variable {X : Cx} {e : Expr} {te : TE} {lo hi : Option Expr} {tl th : TO} {pos p2 : Pos}

theorem po_none : PO X none tNoPart := by
  intro pins s σ H Q I h
  rw [evalPart_none]
  exact wpAny_pure ⟨none, H, I, .none, h⟩
theorem po_some (h : PE X e te) : PO X (some e) (tPart te) := by
  intro pins s σ H Q I hw
  rw [evalPart_some]
  refine thn (h pins s σ H _ I hw) fun u s1 ⟨x, H1, I1, r1, q1⟩ => ?_
  obtain ⟨i, rfl, q⟩ := q1
  obtain ⟨t, rfl⟩ := r1
  exact ⟨some i, H1, I1, .int i t, q⟩


def SlR (X : Cx) (r : V → Option Int → Option Int → Hp → VK → Prop) : Prop :=
  ∀ (pins : List (Addr × Obj)) (s : Shared) (σ : St) (H : Hp) (x : V) (v vl vu : Value) (lo hi : Option Int) (sl : Addr) (Q : VK), Inv X pins σ H s → RelV x v → s.heap.IsSliceOf sl vl vu .none → IsPart vl lo → IsPart vu hi → r x lo hi H Q →
    ∃ T id, typeLookup (.type T) "__getitem__" = pure (some (.builtin id)) ∧ s.TypeIs v T ∧ wpAny (model X.prog X.w) X.A (getItem v (.ref sl)) (EP X pins σ Q) X.xe s
def tSl (r : V → Option Int → Option Int → Hp → VK → Prop) (te : TE) (tl th : TO) : TE := fun σ H Q => te σ H fun x H1 => tl σ H1 fun l H2 => th σ H2 fun u H3 => r x l u H3 Q

theorem pe_slice {r : V → Option Int → Option Int → Hp → VK → Prop} (hr : SlR X r) (he : PE X e te) (hl : PO X lo tl) (hu : PO X hi th) : PE X (.Subscript e (.Slice lo hi none p2) pos) (tSl r te tl th) := by
  intro pins s σ H Q I h
  refine Subscript_ (thn (he pins s σ H _ I h) fun v s1 ⟨x, H1, I1, r1, q1⟩ => ?_)
  refine wpAny_Slice (thn (hl pins s1 σ H1 _ I1 q1) fun vl s2 ⟨l, H2, I2, pl, q2⟩ => thn (hu pins s2 σ H2 _ I2 q2) fun vu s3 ⟨u, H3, I3, pu, q3⟩ => ?_)
  rw [evalPart_none]
  refine wpAny_pure ?_
  have I4 : Inv X pins σ H3 { s3 with heap := s3.heap.push { cls := .type "slice", data := .fields #[vl, vu, .none] } } := I3.kept (t' := s3.toks) fun b ob q => Heap.get?_push_of_some _ q
  obtain ⟨T, id, hT, ht, hg⟩ := hr pins { s3 with heap := s3.heap.push { cls := .type "slice", data := .fields #[vl, vu, .none] } } σ H3 x v vl vu l u s3.heap.objs.size Q I4 r1 (Heap.IsSliceOf.new ..) pl pu q3
  show wpAny (model X.prog X.w) X.A (subscriptTail e (.Slice lo hi none p2) v (.ref s3.heap.objs.size)) (EP X pins σ Q) X.xe { s3 with heap := s3.heap.push { cls := .type "slice", data := .fields #[vl, vu, .none] } }
  exact tail_any (ops := [.ref s3.heap.objs.size, v]) ht hT hg (by with_unfolding_all rfl)


def cutV (xs : List V) (lo hi : Option Int) : List V := (xs.drop (HT.sIx xs.length 0 lo)).take (HT.sIx xs.length xs.length hi - HT.sIx xs.length 0 lo)
theorem cutV_length (xs : List V) (lo hi : Option Int) : (cutV xs lo hi).length ≤ xs.length := by
  unfold cutV
  rw [List.length_take, List.length_drop]
  omega

end
end L2

namespace L2
open PySem PySem.Spec PyProof.Rows



def ixN (n : Nat) (i : Int) : Option Nat := if 0 ≤ i then (if i < n then some i.toNat else none) else if -(n : Int) ≤ i then some (i + n).toNat else none
def atI {α : Type} (xs : List α) (i : Int) : Option α := (ixN xs.length i).bind fun j => xs[j]?
theorem ixN_seq {n : Nat} {i : Int} {j : Nat} (h : ixN n i = some j) : seqIndex? i n = some j ∧ j < n ∧ -(n : Int) ≤ i ∧ i < n := by
  unfold ixN at h
  by_cases h0 : 0 ≤ i
  · rw [if_pos h0] at h
    by_cases h1 : i < n
    · rw [if_pos h1] at h
      have e : i.toNat = j := Option.some.inj h
      exact ⟨by rw [seqIndex_of h0 h1, e], by omega, by omega, h1⟩
    · rw [if_neg h1] at h; cases h
  · rw [if_neg h0] at h
    by_cases h1 : -(n : Int) ≤ i
    · rw [if_pos h1] at h
      have e : (i + n).toNat = j := Option.some.inj h
      exact ⟨by rw [seqIndex_neg (by omega) h1, e], by omega, h1, by omega⟩
    · rw [if_neg h1] at h; cases h
theorem atI_get {α : Type} {xs : List α} {i : Int} {v : α} (h : atI xs i = some v) : ∃ j, seqIndex? i xs.length = some j ∧ xs[j]? = some v ∧ j < xs.length ∧ -(xs.length : Int) ≤ i ∧ i < xs.length := by
  unfold atI at h
  cases e : ixN xs.length i with
  | none => rw [e] at h; cases h
  | some j =>
    rw [e] at h
    obtain ⟨h1, h2, h3, h4⟩ := ixN_seq e
    exact ⟨j, h1, h, h2, h3, h4⟩
theorem atI_nat {α : Type} {xs : List α} {j : Nat} {v : α} (h : xs[j]? = some v) : atI xs (j : Int) = some v := by
  have hj : j < xs.length := (List.getElem?_eq_some_iff.mp h).1
  have e : ixN xs.length (j : Int) = some j := by
    unfold ixN
    rw [if_pos (by omega), if_pos (by omega)]; simp
  unfold atI; rw [e]; exact h
theorem atI_last {α : Type} (xs : List α) (v : α) : atI (xs ++ [v]) (-1) = some v := by
  have hl : (xs ++ [v]).length = xs.length + 1 := by simp
  have e : ixN (xs ++ [v]).length (-1) = some xs.length := by
    unfold ixN
    rw [hl, if_neg (by decide), if_pos (by omega)]
    congr 1
    omega
  unfold atI
  rw [e]
  show (xs ++ [v])[xs.length]? = some v
  simp



def PlainIx (b : Expr) : Prop := ∀ o i, subscripted b false o i = operate [o, i] (getItem o i)

def IxR (X : Cx) (r : R2) : Prop :=
  ∀ (value slice : Expr) (pins : List (Addr × Obj)) (s : Shared) (σ : St) (H : Hp) (x y : V) (v u : Value) (Q : VK), Inv X pins σ H s → RelV x v → RelV y u → r x y H Q →
    subscripted slice false v u = operate [v, u] (getItem v u) → wpAny (model X.prog X.w) X.A (subscriptTail value slice v u) (EP X pins σ Q) X.xe s

def MtR (X : Cx) (id : String) (r : V → List V → Hp → VK → Prop) : Prop :=
  ∀ (pins : List (Addr × Obj)) (s : Shared) (σ : St) (H : Hp) (x : V) (xs : List V) (v : Value) (us : List Value) (Q : VK), Inv X pins σ H s → RelV x v → Vals xs us → r x xs H Q →
    wpAny (model X.prog X.w) X.A (call (.builtin id) (v :: us)) (EP X pins σ Q) X.xe s
section
variable {X : Cx} {a b : Expr} {ta tb : TE} {pos : Pos}
theorem pe_ix {r : R2} (hr : IxR X r) (ha : PE X a ta) (hb : PE X b tb) (hs : PlainIx b) : PE X (.Subscript a b pos) (tOp r ta tb) := by
  intro pins s σ H Q I h
  exact Subscript_ (binT ha hb I h fun v u s2 x y H2 I2 rx ry q => hr a b pins s2 σ H2 x y v u Q I2 rx ry q (hs _ _))

def rIxL (K : PySem.W.Frag) : R2 := fun x y H Q => ∃ p xs i v, x = .ref p ∧ y = .int i ∧ SqL K H p xs ∧ atI xs i = some v ∧ Q v H
def rIxT (K : PySem.W.Frag) : R2 := fun x y H Q => ∃ p xs i v, x = .ref p ∧ y = .int i ∧ SqT K H p xs ∧ atI xs i = some v ∧ Q v H
def rIxS : R2 := fun x y H Q => ∃ z i c, x = .str z ∧ y = .int i ∧ z.length ≤ sizeLine ∧ atI z.cps.toList i = some c ∧ Q (.str ⟨#[c]⟩) H
theorem ix_list : IxR X (rIxL X.K) := by
  intro value slice pins s σ H x y v u Q I rx ry h hs
  obtain ⟨p, xs, i, z, rfl, rfl, hq, he, q⟩ := h
  cases rx
  obtain ⟨t, rfl⟩ := ry
  obtain ⟨its, r, pl, hz⟩ := I.list hq
  obtain ⟨j, h1, h2, h3, h4, h5⟩ := atI_get he
  obtain ⟨w, ew, rw'⟩ := r.get h2
  have hl := r.length
  have hn := line63
  have fin : EP X pins σ Q w s := ⟨z, H, I, rw', q⟩
  by_cases h0 : 0 ≤ i
  · have hj : i.toNat = j := by
      rw [seqIndex_of h0 h5] at h1
      exact Option.some.inj h1
    exact item_listR pl.isList h0 (by omega) (by rw [hj]; simpa using ew) fin hs
  · have hj : (i + (its.toArray.size : Int)).toNat = j := by
      rw [seqIndex_neg (by omega) h4] at h1
      rw [List.size_toArray, ← hl]
      exact Option.some.inj h1
    exact subscriptTail_builtinR (x := w) pl.isList.typeIs slot_list_getitem.lookup
      (wpAny_getItem_list_neg (Q := fun r s' => r = w ∧ EP X pins σ Q r s') pl.isList (by omega) (by rw [List.size_toArray] <;> omega) (by omega) (by rw [hj]; simpa using ew) ⟨rfl, fin⟩) hs
theorem ix_tup : IxR X (rIxT X.K) := by
  intro value slice pins s σ H x y v u Q I rx ry h hs
  obtain ⟨p, xs, i, z, rfl, rfl, hq, he, q⟩ := h
  cases rx
  obtain ⟨t, rfl⟩ := ry
  obtain ⟨its, r, pl, hz⟩ := I.tuple hq
  obtain ⟨j, h1, h2, h3, h4, h5⟩ := atI_get he
  obtain ⟨w, ew, rw'⟩ := r.get h2
  have hl := r.length
  have hn := line63
  have fin : EP X pins σ Q w s := ⟨z, H, I, rw', q⟩
  exact subscriptTail_builtinR (x := w) pl.typeIs slot_tuple_getitem.lookup
    (getItem_tuple (j := j) (Q := fun r s' => r = w ∧ EP X pins σ Q r s') pl (by omega) (by omega) (by rw [List.size_toArray, ← hl]; exact h1) (by simpa using ew) ⟨rfl, fin⟩) hs
theorem ix_str : IxR X rIxS := by
  intro value slice pins s σ H x y v u Q I rx ry h hs
  obtain ⟨z, i, c, rfl, rfl, hz, he, q⟩ := h
  obtain ⟨t, rfl⟩ := rx
  obtain ⟨t', rfl⟩ := ry
  obtain ⟨j, h1, h2, h3, h4, h5⟩ := atI_get he
  have hl : z.cps.toList.length = z.length := by simp [Str.length]
  rw [hl] at h1 h4 h5
  have hn := line63
  exact tail_any (typeIs_str s z t) slot_str_getitem.lookup (getItem_str (c := c) (by
    have e1 : decide (i < -(2 ^ 63 : Int)) = false := decide_eq_false (by omega)
    have e2 : decide (i ≥ 2 ^ 63) = false := decide_eq_false (by omega)
    rw [e1, e2, Bool.or_false]) (by rw [h1]; simpa using h2) ⟨.str ⟨#[c]⟩, H, I.tok _, ⟨_, rfl⟩, q⟩) hs

theorem Inv.lst {pins : List (Addr × Obj)} {σ : St} {H : Hp} {s : Shared} {p : Addr} {xs : List V} (I : Inv X pins σ H s) (h : H p = some (.lst xs)) :
    ∃ (its : List Value) (n : Nat), Vals xs its ∧ s.heap.get? p = some { cls := .type "list", data := .seq its.toArray n } ∧ xs.length ≤ sizeLine := by
  obtain ⟨z, its, n, r, e⟩ := I.hok p _ h
  exact ⟨its, n, r, e, z⟩

theorem slice_bounds (lo hi : Option Int) (n : Nat) : (sliceBounds lo hi none n).1 = ((HT.sIx n 0 lo : Nat) : Int) ∧ (sliceBounds lo hi none n).2.1 = ((HT.sIx n n hi : Nat) : Int) ∧ (sliceBounds lo hi none n).2.2 = 1 := by
  refine ⟨?_, ?_, rfl⟩
  · cases lo with
    | none => simp [sliceBounds, HT.sIx]
    | some i =>
      simp only [sliceBounds, HT.sIx, Option.getD_none, show (1 : Int) > 0 by decide, if_true]
      by_cases h : i < 0
      · simp only [h, if_true] <;> omega
      · simp only [h, if_false] <;> omega
  · cases hi with
    | none => simp [sliceBounds, HT.sIx]
    | some i =>
      simp only [sliceBounds, HT.sIx, Option.getD_none, show (1 : Int) > 0 by decide, if_true]
      by_cases h : i < 0
      · simp only [h, if_true] <;> omega
      · simp only [h, if_false] <;> omega
theorem slicePick_cut (its : List Value) (lo hi : Option Int) : slicePick its.toArray lo hi none = ((its.drop (HT.sIx its.length 0 lo)).take (HT.sIx its.length its.length hi - HT.sIx its.length 0 lo)).toArray := by
  obtain ⟨h1, h2, h3⟩ := slice_bounds lo hi its.toArray.size
  unfold slicePick
  rw [h1, h2, h3]
  simp only [sliceRange_one, pick_run, List.size_toArray] <;> rfl

def rSlL (K : PySem.W.Frag) : V → Option Int → Option Int → Hp → VK → Prop := fun x lo hi H Q => ∃ a xs, x = .ref a ∧ SqL K H a xs ∧ ∀ p, H p = none → Q (.ref p) (upd H p (.lst (cutV xs lo hi)))
theorem sl_list : SlR X (rSlL X.K) := by
  intro pins s σ H x v vl vu lo hi sl Q I rx hs pl pu h
  obtain ⟨a, xs, rfl, hx, q⟩ := h
  cases rx
  obtain ⟨its, r, ht, hz⟩ := I.list hx
  have hlen := r.length
  refine ⟨"list", _, slot_list_getitem.lookup, ht.isList.typeIs, ?_⟩
  refine wpAny_getItem_list_slice ht.isList hs pl pu .none (by simp) ?_ (by rw [List.size_toArray] <;> omega)
  rw [slicePick_cut, ← hlen]
  refine ⟨.ref s.heap.objs.size, _, I.laid (t' := s.toks) (o := .lst (cutV xs lo hi)) (fun b ob q => Heap.get?_push_of_some _ q) (Nat.le_refl _) ?_, rfl, q _ (I.hok.fresh (Nat.le_refl _))⟩
  exact ⟨Nat.le_trans (cutV_length xs lo hi) hz, _, 0, (r.drop (HT.sIx xs.length 0 lo)).take (HT.sIx xs.length xs.length hi - HT.sIx xs.length 0 lo), Heap.get?_push_size _ rfl⟩


theorem call_len_seq : CallR X (.builtin "len") (fun xs H Q => ∃ p ys, xs = [.ref p] ∧ (SqL X.K H p ys ∨ SqT X.K H p ys) ∧ Q (.int ys.length) H) := by
  intro pins s σ H xs us Q I r h
  obtain ⟨p, ys, rfl, hq, q⟩ := h
  obtain ⟨u, rfl, rx⟩ := vals1 r
  cases rx
  have hn := line63
  rcases hq with hq | hq
  · obtain ⟨its, r', pl, hz⟩ := I.list hq
    have hlen := r'.length
    exact Calls.call_len_list pl.isList (by simp only [List.size_toArray] <;> omega) ⟨.int ys.length, H, I.tok _, ⟨s.toks + 1, by rw [List.size_toArray, hlen]⟩, q⟩
  · obtain ⟨its, r', pl, hz⟩ := I.tuple hq
    have hlen := r'.length
    exact len_tuple pl (by simp only [List.size_toArray] <;> omega) ⟨.int ys.length, H, I.tok _, ⟨s.toks + 1, by rw [List.size_toArray, hlen]⟩, q⟩
theorem call_len_str : CallR X (.builtin "len") (fun xs H Q => ∃ z, xs = [.str z] ∧ z.length ≤ sizeLine ∧ Q (.int z.length) H) := by
  intro pins s σ H xs us Q I r h
  obtain ⟨z, rfl, hz, q⟩ := h
  obtain ⟨u, rfl, t, rfl⟩ := vals1 r
  have hn := line63
  exact len_str (by omega) ⟨.int z.length, H, I.tok _, ⟨_, rfl⟩, q⟩
theorem call_list_of : CallR X (.type "list") (fun xs H Q => ∃ p ys, xs = [.ref p] ∧ (SqL X.K H p ys ∨ SqT X.K H p ys) ∧ ∀ l, H l = none → Q (.ref l) (upd H l (.lst ys))) := by
  intro pins s σ H xs us Q I r h
  obtain ⟨p, ys, rfl, hq, q⟩ := h
  obtain ⟨u, rfl, rx⟩ := vals1 r
  cases rx
  have fin : ∀ (its : List Value), Vals ys its → ys.length ≤ sizeLine → ∀ (h' : Heap) (c' : Nat), (∀ b o', s.heap.get? b = some o' → h'.get? b = some o') →
      h'.get? s.heap.objs.size = some { cls := .type "list", dict := none, data := .seq its.toArray c', slots := #[] } → EP X pins σ Q (.ref s.heap.objs.size) { s with heap := h' } := fun its r' hz h' c' kp e =>
    ⟨.ref s.heap.objs.size, _, I.laid (t' := s.toks) kp (Nat.le_refl _) (show ObjOk X.prog X.w _ h' _ (.lst ys) from ⟨hz, its, c', r', e⟩), rfl, q _ (I.hok.fresh (Nat.le_refl _))⟩
  rcases hq with hq | hq
  · obtain ⟨its, r', pl, hz⟩ := I.list hq
    have hlen := r'.length
    obtain ⟨o, ho, hc, n, hd⟩ := pl.isList
    exact call_list_seq p (.inl rfl) ho hc hd (fun h' c' kp e => fin its r' hz h' c' kp e) (by simp only [List.size_toArray] <;> omega)
  · obtain ⟨its, r', pl, hz⟩ := I.tuple hq
    have hlen := r'.length
    obtain ⟨o, ho, hc, n, hd⟩ := pl
    exact call_list_seq p (.inr rfl) ho hc hd (fun h' c' kp e => fin its r' hz h' c' kp e) (by simp only [List.size_toArray] <;> omega)
theorem call_tuple_of : CallR X (.type "tuple") (fun xs H Q => ∃ p ys, xs = [.ref p] ∧ ((SqL X.K H p ys ∧ ∀ l, H l = none → Q (.ref l) (upd H l (.tup ys))) ∨ (SqT X.K H p ys ∧ Q (.ref p) H))) := by
  intro pins s σ H xs us Q I r h
  obtain ⟨p, ys, rfl, h⟩ := h
  obtain ⟨u, rfl, rx⟩ := vals1 r
  cases rx
  rcases h with ⟨hq, q⟩ | ⟨hq, q⟩
  · obtain ⟨its, r', pl, hz⟩ := I.list hq
    have hlen := r'.length
    refine call_tuple_list pl.isList (fun h' kp => ?_) (by simp only [List.size_toArray] <;> omega)
    have I1 : Inv X pins σ H { s with heap := h' } := I.kept (t' := s.toks) kp
    have I2 : Inv X pins σ (upd H h'.objs.size (.tup ys)) { s with heap := h'.push { cls := .type "tuple", data := .seq its.toArray } } :=
      I1.laid (t' := s.toks) (fun b o e => Heap.get?_push_of_some _ e) (Nat.le_refl _) (show ObjOk X.prog X.w _ _ _ (.tup ys) from ⟨hz, its, r', IsTup.new _ _⟩)
    exact ⟨.ref h'.objs.size, _, I2, rfl, q _ (I1.hok.fresh (Nat.le_refl _))⟩
  · obtain ⟨its, r', pl, hz⟩ := I.tuple hq
    exact call_tuple_same pl ⟨.ref p, H, I, rfl, q⟩



def tyV (K : PySem.W.Frag) (T : String) (x : V) (H : Hp) : Prop := match x with
  | .str _ => T = "str"
  | .int _ => T = "int"
  | .ref p => (T = "list" ∧ ∃ xs, SqL K H p xs) ∨ (T = "tuple" ∧ ∃ o, K.lookup p = some o ∧ o.cls = .type "tuple" ∧ o.dict = none) ∨
      (T = "dict" ∧ ((∃ kvs, H p = some (.dK kvs)) ∨ ∃ kvs, H p = some (.dT kvs))) ∨ (T = "set" ∧ ∃ S n, H p = some (.set S n))
  | _ => False
theorem tyV_is {pins : List (Addr × Obj)} {σ : St} {H : Hp} {s : Shared} {T : String} {x : V} {v : Value} (I : Inv X pins σ H s) (r : RelV x v) (ty : tyV X.K T x H) :
    s.TypeIs v T ∧ ∀ a, v = .ref a → ∃ ob, s.heap.get? a = some ob ∧ ob.dict = none := by
  cases x with
  | str z =>
    obtain ⟨t, rfl⟩ := r
    cases (show T = "str" from ty)
    exact ⟨typeIs_str s z t, fun _ e => nomatch e⟩
  | int i =>
    obtain ⟨t, rfl⟩ := r
    cases (show T = "int" from ty)
    exact ⟨typeIs_int s i t, fun _ e => nomatch e⟩
  | ref p =>
    cases r
    rcases ty with ⟨rfl, xs, hq⟩ | ⟨rfl, o, hk, hc, hd⟩ | ⟨rfl, hk⟩ | ⟨rfl, S, n, hk⟩
    · obtain ⟨its, _, pl, _⟩ := I.list hq
      refine ⟨pl.isList.typeIs, fun a e => ?_⟩
      cases e
      obtain ⟨o, n, e, c, hd, _⟩ := pl
      exact ⟨o, e, hd⟩
    · refine ⟨⟨o, I.kIn p o hk, hc⟩, fun a e => ?_⟩
      cases e
      exact ⟨o, I.kIn _ o hk, hd⟩
    · have z : ∃ o, s.heap.get? p = some o ∧ o.ExactDict := by
        rcases hk with ⟨kvs, hk⟩ | ⟨kvs, hk⟩
        · obtain ⟨_, _, _, _, o, _, _, e, ex, _⟩ := I.hok p _ hk
          exact ⟨o, e, ex⟩
        · obtain ⟨_, _, _, _, o, _, _, e, ex, _⟩ := I.hok p _ hk
          exact ⟨o, e, ex⟩
      obtain ⟨o, e, ex⟩ := z
      refine ⟨⟨o, e, ex.1⟩, fun a e2 => ?_⟩
      cases e2
      exact ⟨o, e, ex.2.1⟩
    · obtain ⟨o, _, _, _, e, ex, _⟩ := I.hok p _ hk
      refine ⟨⟨o, e, ex.1⟩, fun a e2 => ?_⟩
      cases e2
      exact ⟨o, e, ex.2.1⟩
  | _ => exact False.elim ty
def tBM0 (K : PySem.W.Frag) (T : String) (r : V → List V → Hp → VK → Prop) (to : TE) : TE := fun σ H Q => to σ H fun x H1 => tyV K T x H1 ∧ r x [] H1 Q
def tBM (K : PySem.W.Frag) (T : String) (r : V → List V → Hp → VK → Prop) (to : TE) (t : TA) : TE := fun σ H Q => to σ H fun x H1 => tyV K T x H1 ∧ t σ H1 fun xs H2 => r x xs H2 Q
variable {o e : Expr} {es : List Expr} {to : TE} {t : TA} {name : Str} {apos cpos : Pos} {T id : String} {r : V → List V → Hp → VK → Prop}
theorem pe_bm0 (pa : PlainAttrs T) (slot : Slot T name id) (hty : typeOf (.builtin id) = pure (.type "method_descriptor")) (hm : MtR X id r) (ho : PE X o to)
    (hbase : attributeBase o name X.env (eval o X.env) = eval o X.env := by rfl) (hline : (apos.endLine == cpos.line) = true := by rfl) : PE X (.Call (.Attribute o name apos) [] [] cpos) (tBM0 X.K T r to) := by
  intro pins s σ H Q I h
  refine wpAny_Call_method0_late hbase hline (thn (ho pins s σ H _ I h) fun v s1 ⟨x, H1, I1, r1, ty, q1⟩ => ?_)
  obtain ⟨h1, h2⟩ := tyV_is I1 r1 ty
  exact ⟨T, id, pa, slot, hty, h1, h2, Calls.callWith_builtin rfl (PySem.evalArgs_none (hm pins s1 σ H1 x [] v [] Q I1 r1 .nil q1))⟩
theorem pe_bm (pa : PlainAttrs T) (slot : Slot T name id) (hty : typeOf (.builtin id) = pure (.type "method_descriptor")) (hm : MtR X id r) (ho : PE X o to) (ha : PA X (e :: es) t)
    (hbase : attributeBase o name X.env (eval o X.env) = eval o X.env := by rfl)
    (hfew : ((backTo cpos (starEach (e :: es) X.env)).all (fun x => !x.1) && (backToKw cpos (keywordEach [] X.env)).all (fun x => x.1.isSome)
      && decide ((e :: es).length + ([] : List Keyword).length + (if ([] : List Keyword).isEmpty then 0 else 1) < 30)) = true := by rfl)
    (hline : (apos.endLine == cpos.line) = true := by rfl) (hs : starEach (e :: es) X.env = (false, eval e X.env) :: starEach es X.env := by rfl) (hplain : (backTo cpos (starEach es X.env)).any (·.1) = false := by rfl) :
    PE X (.Call (.Attribute o name apos) (e :: es) [] cpos) (tBM X.K T r to t) := by
  intro pins s σ H Q I h
  refine wpAny_Call_method_late hbase hfew hline rfl (thn (ho pins s σ H _ I h) fun v s1 ⟨x, H1, I1, r1, ty, q1⟩ => ?_)
  obtain ⟨h1, h2⟩ := tyV_is I1 r1 ty
  refine ⟨T, id, pa, slot, hty, h1, h2, ?_⟩
  have hA := ha cpos pins s1 σ H1 _ I1 q1
  rw [hs] at hA ⊢
  refine Calls.callWith_builtin (by show (false || (backTo cpos (starEach es X.env)).any (·.1)) = false; rw [hplain] <;> rfl) (Calls.evalArgs_plain ?_)
  exact thn hA fun us s2 ⟨vs, H2, I2, r2, q2⟩ => hm pins s2 σ H2 x vs v us Q I2 r1 r2 q2

end
end L2

namespace L2
open PySem PySem.Spec PyProof.Rows

def MtM (X : Cx) (id : String) (r : V → List V → Hp → VK → Prop) : Prop :=
  ∀ (pins : List (Addr × Obj)) (s : Shared) (σ : St) (H : Hp) (x : V) (xs : List V) (v : Value) (us : List Value) (Q : VK), Inv X pins σ H s → RelV x v → Vals xs us → r x xs H Q →
    wpAny (model X.prog X.w) X.A (call (.builtin id) (v :: us)) (EP X pins σ Q) X.xe s


theorem Vals.one : ∀ {x : V} {us : List Value}, Vals [x] us → ∃ u, us = [u] ∧ RelV x u
  | _, _, .cons r .nil => ⟨_, rfl, r⟩
theorem Vals.zero : ∀ {us : List Value}, Vals [] us → us = []
  | _, .nil => rfl
theorem Vals.dropLast {xs : List V} {us : List Value} (h : Vals xs us) : Vals xs.dropLast us.dropLast := by
  induction h with
  | nil => exact .nil
  | cons r t ih =>
    cases t with
    | nil => exact .nil
    | cons q t' => exact .cons r ih
theorem Vals.eraseIdx : ∀ {xs : List V} {us : List Value} (i : Nat), Vals xs us → Vals (xs.eraseIdx i) (us.eraseIdx i)
  | _, _, _, .nil => .nil
  | _, _, 0, .cons _ t => t
  | _, _, i + 1, .cons r t => .cons r (Vals.eraseIdx i t)
theorem Vals.reverse {xs : List V} {us : List Value} (h : Vals xs us) : Vals xs.reverse us.reverse := by
  induction h with
  | nil => exact .nil
  | cons r t ih => rw [List.reverse_cons, List.reverse_cons]; exact Vals.append ih (.cons r .nil)
theorem erase_last {α : Type} (l : List α) : l.eraseIdx (l.length - 1) = l.dropLast := by
  induction l with
  | nil => rfl
  | cons a r ih =>
    cases r with
    | nil => rfl
    | cons b r =>
      have e : (a :: b :: r).length - 1 = ((b :: r).length - 1) + 1 := by
        have h1 : (a :: b :: r).length = r.length + 2 := rfl
        have h2 : (b :: r).length = r.length + 1 := rfl
        omega
      rw [e, List.eraseIdx_cons_succ, ih]
      all_goals rfl
section
variable {X : Cx} {pins : List (Addr × Obj)} {σ : St} {H : Hp} {s : Shared} {l b : Addr} {xs ys zs : List V}


theorem Inv.lset {its its' : List Value} {n : Nat} {f : Array Value → Array Value} {t' : Nat} (I : Inv X pins σ H s) (hH : H l = some (.lst xs))
    (e : s.heap.get? l = some { cls := .type "list", data := .seq its.toArray n }) (hf : f its.toArray = its'.toArray) (hv : Vals ys its') (hz : ys.length ≤ sizeLine) :
    Inv X pins σ (upd H l (.lst ys)) { s with heap := s.heap.update l (Obj.mapSeq f), toks := t' } := by
  have q := PySem.IsL.update e f
  rw [hf] at q
  refine I.write (x := l) (e := l) (by rw [hH]; exact trivial) (.inl rfl) (fun b' u hb hu => (Heap.get?_update_other s.heap (Obj.mapSeq f) (Ne.symm hb)).trans hu) ⟨_, q⟩ ?_
  exact ⟨hz, its', _, hv, q⟩
theorem Inv.lnew {its : List Value} {t' : Nat} (I : Inv X pins σ H s) (hv : Vals ys its) (hz : ys.length ≤ sizeLine) :
    Inv X pins σ (upd H s.heap.objs.size (.lst ys)) { s with heap := s.heap.push { cls := .type "list", data := .seq its.toArray }, toks := t' } :=
  I.laid (fun _ _ q => Heap.get?_push_of_some _ q) (Nat.le_refl _) ⟨hz, its, 0, hv, Heap.get?_push_size _ rfl⟩
theorem Inv.fresh (I : Inv X pins σ H s) : H s.heap.objs.size = none := I.hok.fresh (Nat.le_refl _)
theorem Inv.lstM (I : Inv X pins σ H s) (hH : H l = some (.lst xs)) : xs.length ≤ sizeLine ∧ ∃ (its : List Value) (n : Nat), Vals xs its ∧ xs.length = its.length ∧ s.heap.get? l = some { cls := .type "list", data := .seq its.toArray n } := by
  obtain ⟨z, its, n, r, e⟩ := I.hok l _ hH
  exact ⟨z, its, n, r, r.length, e⟩

end

section
variable {X : Cx}


def rAppend : V → List V → Hp → VK → Prop := fun x vs H Q => ∃ l xs y, x = .ref l ∧ vs = [y] ∧ H l = some (.lst xs) ∧ xs.length < sizeLine ∧ Q .non (upd H l (.lst (xs ++ [y])))
theorem mt_append : MtM X "list.append" rAppend := by
  intro pins s σ H x vs v us Q I rx rv h
  obtain ⟨l, xs, y, rfl, rfl, hH, hz, q⟩ := h
  cases rx
  obtain ⟨u, rfl, ru⟩ := rv.one
  obtain ⟨z, its, n, r, hl, e⟩ := I.lstM hH
  refine call_meets F.slot_list_append ⟨_, e, rfl⟩ F.entry_list_append (F.args_list_append_2 _ _) (PySem.list_append l its.toArray n u (by rw [List.size_toArray]; omega)) ⟨e, ?_⟩
  refine ⟨.non, _, I.lset (its' := its ++ [u]) hH e (by simp) (r.append (.cons ru .nil)) ?_, rfl, q⟩
  rw [List.length_append, List.length_singleton]
  omega

def rPop : V → List V → Hp → VK → Prop := fun x vs H Q => ∃ l xs y, x = .ref l ∧ vs = [] ∧ H l = some (.lst xs) ∧ xs[xs.length - 1]? = some y ∧ Q y (upd H l (.lst xs.dropLast))
theorem mt_pop : MtM X "list.pop" rPop := by
  intro pins s σ H x vs v us Q I rx rv h
  obtain ⟨l, xs, y, rfl, rfl, hH, hy, q⟩ := h
  cases rx
  have hus := rv.zero
  subst hus
  obtain ⟨z, its, n, r, hl, e⟩ := I.lstM hH
  obtain ⟨u, hu, ru⟩ := r.get hy
  have hy' : its.toArray[its.toArray.size - 1]? = some u := by
    show its.toArray[its.length - 1]? = some u
    rw [← Array.getElem?_toList, ← hl]
    exact hu
  refine call_meets F.slot_list_pop ⟨_, e, rfl⟩ F.entry_list_pop (F.args_list_pop_1 _) (MeetsSeq.list_pop_last l its.toArray n u hy' (by rw [List.size_toArray]; omega)) ⟨e, ?_⟩
  refine ⟨y, _, I.lset (its' := its.dropLast) hH e ?_ r.dropLast ?_, ru, q⟩
  · show its.toArray.eraseIdxIfInBounds (its.toArray.size - 1) = its.dropLast.toArray
    rw [List.size_toArray, List.eraseIdxIfInBounds_toArray, erase_last]
  · rw [List.length_dropLast]
    omega

def rReverse : V → List V → Hp → VK → Prop := fun x vs H Q => ∃ l xs, x = .ref l ∧ vs = [] ∧ H l = some (.lst xs) ∧ Q .non (upd H l (.lst xs.reverse))
theorem mt_reverse : MtM X "list.reverse" rReverse := by
  intro pins s σ H x vs v us Q I rx rv h
  obtain ⟨l, xs, rfl, rfl, hH, q⟩ := h
  cases rx
  have hus := rv.zero
  subst hus
  obtain ⟨z, its, n, r, hl, e⟩ := I.lstM hH
  refine call_meets F.slot_list_reverse ⟨_, e, rfl⟩ F.entry_list_reverse (F.args_list_reverse_1 _) (AutoSeq1.list_reverse_list_0 l its.toArray n (by rw [List.size_toArray]; omega)) ⟨e, ?_⟩
  refine ⟨.non, _, I.lset (its' := its.reverse) hH e (by simp) r.reverse ?_, rfl, q⟩
  rw [List.length_reverse]
  omega

def rCat : R2 := fun x y H Q => ∃ l b xs zs, x = .ref l ∧ y = .ref b ∧ H l = some (.lst xs) ∧ H b = some (.lst zs) ∧ xs.length + zs.length ≤ sizeLine ∧ ∀ p, H p = none → Q (.ref p) (upd H p (.lst (xs ++ zs)))
theorem op_cat : OpR X (binaryOp .Add) rCat := by
  intro pins s σ H x y v u Q I rx ry h
  obtain ⟨l, b, xs, zs, rfl, rfl, hH, hB, hz, q⟩ := h
  cases rx
  cases ry
  obtain ⟨z, its, n, r, hl, e⟩ := I.lstM hH
  obtain ⟨z2, its2, n2, r2, hl2, e2⟩ := I.lstM hB
  refine PySem.P.add_list e e2 ?_ (by rw [List.size_toArray, List.size_toArray]; omega)
  have ea : its.toArray ++ its2.toArray = (its ++ its2).toArray := by simp
  rw [ea]
  exact ⟨.ref _, _, I.lnew (t' := s.toks) (r.append r2) (by rw [List.length_append]; omega), rfl, q _ I.fresh⟩

end


section
variable {prog : Program} {w : World} {A : Around} {E : Value → Shared → Prop} {s : Shared}
set_option maxRecDepth 100000 in

end

section
variable {X : Cx}

end
end L2

namespace L2
open PySem PySem.Spec PyProof.Rows


section
variable {κ : Type} [DecidableEq κ]
def valV (kvs : List (κ × V)) (k : κ) : Option V := (kvs.find? fun kv => decide (kv.1 = k)).map (·.2)

def putK (kvs : List (κ × V)) (k : κ) (v : V) : List (κ × V) :=
  if (kvs.any fun kv => decide (kv.1 = k)) = true then kvs.map (fun kv => if kv.1 = k then (kv.1, v) else kv) else kvs ++ [(k, v)]
def dropK (kvs : List (κ × V)) (k : κ) : List (κ × V) := kvs.filter fun kv => decide (kv.1 ≠ k)

theorem valV_pos {p : κ × V} {r : List (κ × V)} {k : κ} (e : p.1 = k) : valV (p :: r) k = some p.2 := by simp [valV, List.find?_cons, e]
theorem valV_neg {p : κ × V} {r : List (κ × V)} {k : κ} (e : ¬ p.1 = k) : valV (p :: r) k = valV r k := by simp [valV, List.find?_cons, e]
theorem valV_any (k : κ) : ∀ kvs : List (κ × V), (kvs.any fun kv => decide (kv.1 = k)) = (valV kvs k).isSome
  | [] => rfl
  | p :: r => by
    rw [List.any_cons]
    by_cases e : p.1 = k
    · simp only [valV_pos e, decide_eq_true e, Bool.true_or, Option.isSome_some]
    · rw [valV_neg e, decide_eq_false e, Bool.false_or]; exact valV_any k r
theorem valV_map (k j : κ) (y : V) : ∀ kvs : List (κ × V), valV (kvs.map fun kv => if kv.1 = k then (kv.1, y) else kv) j = (valV kvs j).map fun x => if j = k then y else x
  | [] => rfl
  | p :: r => by
    have ih := valV_map k j y r
    rw [List.map_cons]
    by_cases h : p.1 = k
    · rw [if_pos h]
      by_cases e : p.1 = j
      · rw [valV_pos (p := (p.1, y)) e, valV_pos e, Option.map_some, if_pos (e.symm.trans h)]
      · rw [valV_neg (p := (p.1, y)) e, valV_neg e, ih]
    · rw [if_neg h]
      by_cases e : p.1 = j
      · rw [valV_pos (p := p) e, valV_pos e, Option.map_some, if_neg (fun z => h (e.trans z))]
      · rw [valV_neg (p := p) e, valV_neg e, ih]
theorem valV_snoc (k j : κ) (y : V) : ∀ kvs : List (κ × V), valV kvs k = none → valV (kvs ++ [(k, y)]) j = if j = k then some y else valV kvs j
  | [], _ => by
    by_cases e : k = j
    · rw [if_pos e.symm]; exact valV_pos (p := (k, y)) e
    · rw [if_neg (fun z => e z.symm)]; exact valV_neg (p := (k, y)) e
  | p :: r, hn => by
    rw [List.cons_append]
    have hk : ¬ p.1 = k := fun z => by rw [valV_pos z] at hn; cases hn
    rw [valV_neg hk] at hn
    have ih := valV_snoc k j y r hn
    by_cases e : p.1 = j
    · rw [valV_pos e, valV_pos e, if_neg (fun z => hk (e.trans z))]
    · rw [valV_neg e, valV_neg e, ih]
theorem valV_put (kvs : List (κ × V)) (k j : κ) (y : V) : valV (putK kvs k y) j = if j = k then some y else valV kvs j := by
  unfold putK
  by_cases a : (kvs.any fun kv => decide (kv.1 = k)) = true
  · rw [if_pos a, valV_map]
    rw [valV_any] at a
    by_cases e : j = k
    · obtain ⟨x, hx⟩ := Option.isSome_iff_exists.mp a
      rw [if_pos e, e, hx, Option.map_some, if_pos rfl]
    · rw [if_neg e]
      cases valV kvs j with
      | none => rfl
      | some x => rw [Option.map_some, if_neg e]
  · rw [if_neg a]
    refine valV_snoc k j y kvs ?_
    rw [valV_any] at a
    cases q : valV kvs k with
    | none => rfl
    | some x => rw [q] at a; exact (a rfl).elim
theorem length_putK (kvs : List (κ × V)) (k : κ) (v : V) : (putK kvs k v).length ≤ kvs.length + 1 := by
  unfold putK
  split
  · rw [List.length_map]; omega
  · rw [List.length_append, List.length_cons, List.length_nil]; omega
theorem putK_new {kvs : List (κ × V)} {k : κ} (v : V) (h : valV kvs k = none) : putK kvs k v = kvs ++ [(k, v)] := by
  unfold putK
  rw [valV_any, h]
  exact if_neg (by decide)

theorem RelO.isSome_eq {o : Option V} {u : Option Value} (r : RelO o u) : o.isSome = u.isSome := by
  cases o with
  | none => cases u with
    | none => rfl
    | some _ => exact (show False from r).elim
  | some _ => cases u with
    | none => exact (show False from r).elim
    | some _ => rfl
theorem RelO.getD {o : Option V} {u : Option Value} {d : V} {d' : Value} (r : RelO o u) (rd : RelV d d') : RelV (o.getD d) (u.getD d') := by
  cases o with
  | none => cases u with
    | none => exact rd
    | some _ => exact (show False from r).elim
  | some _ => cases u with
    | none => exact (show False from r).elim
    | some _ => exact r


theorem KV.val {kvs : List (κ × V)} {vs : List (κ × Value)} (r : KV kvs vs) (k : κ) : RelO (valV kvs k) (valueAt vs k) := by
  unfold KV at r
  induction r with
  | nil => exact True.intro
  | @cons p q ps qs h t ih =>
    obtain ⟨h1, h2⟩ := h
    by_cases e : p.1 = k
    · have e' : q.1 = k := h1.symm.trans e
      have b : valueAt (q :: qs) k = some q.2 := by simp [valueAt, List.find?_cons, e']
      rw [valV_pos e, b]; exact h2
    · have e' : ¬ q.1 = k := fun z => e (h1.trans z)
      have b : valueAt (q :: qs) k = valueAt qs k := by simp [valueAt, List.find?_cons, e']
      rw [valV_neg e, b]; exact ih
theorem KV.any {kvs : List (κ × V)} {vs : List (κ × Value)} (r : KV kvs vs) (k : κ) : (kvs.any fun kv => decide (kv.1 = k)) = vs.any fun kv => decide (kv.1 = k) := by
  unfold KV at r
  induction r with
  | nil => rfl
  | cons h t ih => rw [List.any_cons, List.any_cons, ih, h.1]
theorem KV.repl {kvs : List (κ × V)} {vs : List (κ × Value)} (r : KV kvs vs) (k : κ) {y : V} {u : Value} (ry : RelV y u) :
    KV (kvs.map fun kv => if kv.1 = k then (kv.1, y) else kv) (vs.map fun kv => if kv.1 = k then (kv.1, u) else kv) := by
  unfold KV at r ⊢
  induction r with
  | nil => exact .nil
  | @cons p q ps qs h t ih =>
    rw [List.map_cons, List.map_cons]
    refine .cons ?_ ih
    obtain ⟨h1, h2⟩ := h
    by_cases e : p.1 = k
    · rw [if_pos e, if_pos (h1.symm.trans e)]; exact ⟨h1, ry⟩
    · rw [if_neg e, if_neg (fun z => e (h1.trans z))]; exact ⟨h1, h2⟩
theorem KV.put {kvs : List (κ × V)} {vs : List (κ × Value)} (r : KV kvs vs) (k : κ) {y : V} {u : Value} (ry : RelV y u) : KV (putK kvs k y) (stored vs k u) := by
  unfold putK stored
  rw [r.any k]
  by_cases e : (vs.any fun kv => decide (kv.1 = k)) = true
  · rw [if_pos e, if_pos e]; exact r.repl k ry
  · rw [if_neg e, if_neg e]; exact Paired.snoc r ⟨rfl, ry⟩
theorem KV.drop {kvs : List (κ × V)} {vs : List (κ × Value)} (r : KV kvs vs) (k : κ) : KV (dropK kvs k) (without vs k) := by
  unfold KV at r ⊢
  unfold dropK without
  induction r with
  | nil => exact .nil
  | @cons p q ps qs h t ih =>
    obtain ⟨h1, h2⟩ := h
    rw [List.filter_cons, List.filter_cons]
    by_cases e : p.1 = k
    · have a : ¬ decide (p.1 ≠ k) = true := by simp [e]
      have b : ¬ decide (q.1 ≠ k) = true := by simp [h1.symm.trans e]
      rw [if_neg a, if_neg b]; exact ih
    · have e' : ¬ q.1 = k := fun z => e (h1.trans z)
      have a : decide (p.1 ≠ k) = true := by simp [e]
      have b : decide (q.1 ≠ k) = true := by simp [e']
      rw [if_pos a, if_pos b]; exact .cons ⟨h1, h2⟩ ih
theorem KV.keys {kvs : List (κ × V)} {vs : List (κ × Value)} (r : KV kvs vs) : kvs.map (·.1) = vs.map (·.1) := by
  unfold KV at r
  induction r with
  | nil => rfl
  | cons h t ih => rw [List.map_cons, List.map_cons, ih, h.1]
theorem KV.length {kvs : List (κ × V)} {vs : List (κ × Value)} (r : KV kvs vs) : kvs.length = vs.length := Paired.length r
end



theorem kV_is {P : Program} {w : World} {k : Key} {u : Value} (r : RelV (kV k) u) : (mixKind P w).is k u = true := by
  cases k with
  | inl i => obtain ⟨t, e⟩ := (show ∃ t, u = Value.int i t from r); subst e; exact mixKind_int P w i t
  | inr x => obtain ⟨t, e⟩ := (show ∃ t, u = Value.str x t from r); subst e; exact mixKind_str P w x t
theorem items_are {P : Program} {w : World} : ∀ {ks : List Key} {us : List Value}, Vals (ks.map kV) us → ItemsAre (mixKind P w) ks us
  | [], _, r => by rw [List.map_nil] at r; cases r; exact .nil
  | k :: ks, _, r => by
    rw [List.map_cons] at r
    cases r with
    | cons h t => exact .cons (kV_is h) (items_are t)


abbrev KT (H : Hp) : List (List Key × V) → List (List Key × Addr × Value) → Prop := Paired fun p q => p.1 = q.1 ∧ H q.2.1 = some (.tup (p.1.map kV)) ∧ RelV p.2 q.2.2
theorem KT.val {H : Hp} {kvs : List (List Key × V)} {xs : List (List Key × Addr × Value)} (r : KT H kvs xs) (k : List Key) : RelO (valV kvs k) ((atKey xs k).map (·.2)) := by
  induction r with
  | nil => exact True.intro
  | @cons p q ps qs h t ih =>
    obtain ⟨h1, _, h2⟩ := h
    by_cases e : p.1 = k
    · have e' : q.1 = k := h1.symm.trans e
      have b : atKey (q :: qs) k = some q.2 := by simp [atKey, List.find?_cons, e']
      rw [valV_pos e, b]; exact h2
    · have e' : ¬ q.1 = k := fun z => e (h1.trans z)
      have b : atKey (q :: qs) k = atKey qs k := by simp [atKey, List.find?_cons, e']
      rw [valV_neg e, b]; exact ih
theorem KT.repl {H : Hp} {kvs : List (List Key × V)} {xs : List (List Key × Addr × Value)} (r : KT H kvs xs) (k : List Key) {y : V} {u : Value} (ry : RelV y u) :
    KT H (kvs.map fun kv => if kv.1 = k then (kv.1, y) else kv) (xs.map (putAt k u)) := by
  induction r with
  | nil => exact .nil
  | @cons p q ps qs h t ih =>
    rw [List.map_cons, List.map_cons]
    refine .cons ?_ ih
    obtain ⟨h1, h2, h3⟩ := h
    unfold putAt
    by_cases e : p.1 = k
    · rw [if_pos e, if_pos (h1.symm.trans e)]; exact ⟨h1, h2, ry⟩
    · rw [if_neg e, if_neg (fun z => e (h1.trans z))]; exact ⟨h1, h2, h3⟩
theorem KT.put {H : Hp} {kvs : List (List Key × V)} {xs : List (List Key × Addr × Value)} (r : KT H kvs xs) (k : List Key) {b : Addr} {y : V} {u : Value} (hb : H b = some (.tup (k.map kV))) (ry : RelV y u) :
    KT H (putK kvs k y) (storedH xs k b u) := by
  have e : (kvs.any fun kv => decide (kv.1 = k)) = (atKey xs k).isSome := by
    rw [valV_any, (r.val k).isSome_eq, Option.isSome_map]
  unfold putK storedH
  rw [e]
  by_cases q : (atKey xs k).isSome = true
  · rw [if_pos q, if_pos q]; exact r.repl k ry
  · rw [if_neg q, if_neg q]; exact Paired.snoc r ⟨rfl, hb, ry⟩
theorem KT.keeps {H H' : Hp} {kvs : List (List Key × V)} {xs : List (List Key × Addr × Value)} (r : KT H kvs xs) (ht : ∀ b ys, H b = some (.tup ys) → H' b = some (.tup ys)) : KT H' kvs xs :=
  Paired.mapP r fun _ _ z => ⟨z.1, ht _ _ z.2.1, z.2.2⟩

section
variable {P : Program} {w : World} {H : Hp} {h : Heap} {a : Addr}
theorem rd_of {u : HO} (ok : HOk P w H h) (e : Rd H a u) : ObjOk P w H h a u := e.ok ok
theorem dk_rd {kvs : List (Key × V)} (ok : HOk P w H h) (e : Rd H a (.dK kvs)) : kvs.length ≤ sizeLine ∧ (a == sysModules) = false ∧ ∃ vs, KV kvs vs ∧ h.DictOf (mixKind P w) a vs :=
  show ObjOk P w H h a (.dK kvs) from rd_of ok e
theorem dk_of {kvs : List (Key × V)} (ok : HOk P w H h) (e : H a = some (.dK kvs)) : kvs.length ≤ sizeLine ∧ (a == sysModules) = false ∧ ∃ vs, KV kvs vs ∧ h.DictOf (mixKind P w) a vs := dk_rd ok (.inl e)

theorem key_of {ks : List Key} (ok : HOk P w H h) (e : H a = some (.tup (ks.map kV))) : (tupleKind (mixKind P w)).is h ks a := by
  obtain ⟨_, its, r, o, h1, h2, n, h3⟩ := (show ObjOk P w H h a (.tup (ks.map kV)) from ok a _ e)
  exact ⟨o, its.toArray, n, h1, h2, h3, by simpa using items_are r⟩
theorem dt_rd {kvs : List (List Key × V)} (ok : HOk P w H h) (e : Rd H a (.dT kvs)) : kvs.length ≤ sizeLine ∧ (a == sysModules) = false ∧
    ∃ xs, KT H kvs xs ∧ h.DictOfH (tupleKind (mixKind P w)) a xs := by
  obtain ⟨z, y, xs, r, o, es, ep, h1, h2, h3, h4, h5⟩ := (show ObjOk P w H h a (.dT kvs) from rd_of ok e)
  refine ⟨z, y, xs, r, o, es, ep, h1, h2, h3, h4, fun x hx => ?_, h5⟩
  have all : ∀ {l : List (List Key × V)} {m : List (List Key × Addr × Value)}, KT H l m → ∀ x ∈ m, (tupleKind (mixKind P w)).is h x.1 x.2.1 := by
    intro l m q
    induction q with
    | nil => intro x hx; exact nomatch hx
    | @cons p q ps qs hq t ih =>
      intro x hx
      rcases List.mem_cons.mp hx with e | hx
      · subst e
        exact key_of ok (by rw [← hq.1]; exact hq.2.1)
      · exact ih x hx
  exact all r x hx
theorem dt_of {kvs : List (List Key × V)} (ok : HOk P w H h) (e : H a = some (.dT kvs)) : kvs.length ≤ sizeLine ∧ (a == sysModules) = false ∧
    ∃ xs, KT H kvs xs ∧ h.DictOfH (tupleKind (mixKind P w)) a xs := dt_rd ok (.inl e)
end


def DGet (H : Hp) (a : Addr) (y : V) (r : Option V) : Prop :=
  (∃ kvs k, Rd H a (.dK kvs) ∧ y = kV k ∧ r = valV kvs k) ∨ ∃ kvs k b, Rd H a (.dT kvs) ∧ y = .ref b ∧ H b = some (.tup (k.map kV)) ∧ r = valV kvs k

def DPut (H : Hp) (a : Addr) (y v : V) (H' : Hp) : Prop :=
  (∃ kvs k, H a = some (.dK kvs) ∧ y = kV k ∧ kvs.length < sizeLine ∧ H' = upd H a (.dK (putK kvs k v))) ∨
  ∃ kvs k b, H a = some (.dT kvs) ∧ y = .ref b ∧ H b = some (.tup (k.map kV)) ∧ kvs.length < sizeLine ∧ H' = upd H a (.dT (putK kvs k v))
theorem DGet.k {H : Hp} {a : Addr} {kvs : List (Key × V)} {k : Key} (e : H a = some (.dK kvs)) : DGet H a (kV k) (valV kvs k) := .inl ⟨kvs, k, .inl e, rfl, rfl⟩
theorem DGet.t {H : Hp} {a b : Addr} {kvs : List (List Key × V)} {k : List Key} (e : H a = some (.dT kvs)) (eb : H b = some (.tup (k.map kV))) : DGet H a (.ref b) (valV kvs k) := .inr ⟨kvs, k, b, .inl e, rfl, eb, rfl⟩
theorem DPut.k {H : Hp} {a : Addr} {kvs : List (Key × V)} {k : Key} {v : V} (e : H a = some (.dK kvs)) (hl : kvs.length < sizeLine) : DPut H a (kV k) v (upd H a (.dK (putK kvs k v))) := .inl ⟨kvs, k, e, rfl, hl, rfl⟩
theorem DPut.t {H : Hp} {a b : Addr} {kvs : List (List Key × V)} {k : List Key} {v : V} (e : H a = some (.dT kvs)) (eb : H b = some (.tup (k.map kV))) (hl : kvs.length < sizeLine) :
    DPut H a (.ref b) v (upd H a (.dT (putK kvs k v))) := .inr ⟨kvs, k, b, e, rfl, eb, hl, rfl⟩


section
variable {X : Cx} {pins : List (Addr × Obj)} {σ : St} {H : Hp} {s : Shared} {a : Addr} {y v : V} {u r : Value} {o : Option V} {A : Around} {E : Value → Shared → Prop}

theorem Inv.big (I : Inv X pins σ H s) : sysModules < s.heap.objs.size := by
  have h : mainGlobals < s.heap.objs.size := (I.mod.glob.keeps I.bk).lt
  exact Nat.lt_trans (by decide) h


theorem d_getItem {Q : Value → Shared → Prop} (hu : A.units + 1 < cLine) (I : Inv X pins σ H s) (g : DGet H a y (some v)) (ry : RelV y u) (h : ∀ w' s', Inv X pins σ H s' → RelV v w' → Q w' s') :
    wpAny (model X.prog X.w) A (getItem (.ref a) u) Q E s := by
  rcases g with ⟨kvs, k, e, ey, l⟩ | ⟨kvs, k, b, e, ey, eb, l⟩
  · subst ey
    obtain ⟨z, hd, vs, rel, dd⟩ := dk_rd I.hok e
    obtain ⟨w', hw, rw'⟩ := RelO.some_of (v := v) (o := valueAt vs k) (by rw [l]; exact rel.val k)
    exact wpAny_getItem_of (kV_is ry) dd.mapOf hw (h w' _ (I.tok _) rw')
  · subst ey
    cases (show u = Value.ref b from ry)
    obtain ⟨z, hd, xs, rel, dd⟩ := dt_rd I.hok e
    obtain ⟨w', hw, rw'⟩ := RelO.some_of (v := v) (o := (atKey xs k).map (·.2)) (by rw [l]; exact rel.val k)
    obtain ⟨p, hp, hp2⟩ := Option.map_eq_some_iff.mp hw
    refine wpAny_getItem_heap (tupleKind_room_in1 hu) (key_of I.hok eb) dd hp ?_
    rw [hp2]
    exact h w' _ (I.tok _) rw'

theorem d_in {Q : Value → Shared → Prop} (hu : A.units + 1 < cLine) (I : Inv X pins σ H s) (g : DGet H a y o) (ry : RelV y u) (h : ∀ s', Inv X pins σ H s' → Q (.bool o.isSome) s') :
    wpAny (model X.prog X.w) A (compareOp .In u (.ref a)) Q E s := by
  rcases g with ⟨kvs, k, e, ey, l⟩ | ⟨kvs, k, b, e, ey, eb, l⟩
  · subst ey
    obtain ⟨z, hd, vs, rel, dd⟩ := dk_rd I.hok e
    refine wpAny_in_of (kV_is ry) hd dd.mapOf ?_
    rw [← (rel.val k).isSome_eq, ← l]
    exact h _ (I.tok _)
  · subst ey
    cases (show u = Value.ref b from ry)
    obtain ⟨z, hd, xs, rel, dd⟩ := dt_rd I.hok e
    refine wpAny_in_heap (tupleKind_room_in1 hu) (key_of I.hok eb) hd dd ?_
    have q := (rel.val k).isSome_eq
    rw [Option.isSome_map] at q
    rw [← q, ← l]
    exact h _ (I.tok _)
theorem d_notIn {Q : Value → Shared → Prop} (hu : A.units + 1 < cLine) (I : Inv X pins σ H s) (g : DGet H a y o) (ry : RelV y u) (h : ∀ s', Inv X pins σ H s' → Q (.bool (!o.isSome)) s') :
    wpAny (model X.prog X.w) A (compareOp .NotIn u (.ref a)) Q E s := by
  rcases g with ⟨kvs, k, e, ey, l⟩ | ⟨kvs, k, b, e, ey, eb, l⟩
  · subst ey
    obtain ⟨z, hd, vs, rel, dd⟩ := dk_rd I.hok e
    refine wpAny_notIn_of (kV_is ry) hd dd.mapOf ?_
    rw [← (rel.val k).isSome_eq, ← l]
    exact h _ (I.tok _)
  · subst ey
    cases (show u = Value.ref b from ry)
    obtain ⟨z, hd, xs, rel, dd⟩ := dt_rd I.hok e
    refine wpAny_notIn_heap (tupleKind_room_in1 hu) (key_of I.hok eb) hd dd ?_
    have q := (rel.val k).isSome_eq
    rw [Option.isSome_map] at q
    rw [← q, ← l]
    exact h _ (I.tok _)

theorem d_write {h' : Heap} {t' : Nat} {ob : HO} (I : Inv X pins σ H s) (mu : Mut (H a)) (hs : Heap.SameBut a s.heap h') (he : ∃ q, h'.get? a = some q) (new : ObjOk X.prog X.w (upd H a ob) h' a ob) :
    Inv X pins σ (upd H a ob) { s with heap := h', toks := t' } :=
  I.write (x := a) (e := a) mu (.inl rfl) (fun b q hb z => (hs.2 b hb).trans z) he new
theorem dk_new {P : Program} {w : World} {H' : Hp} {h' : Heap} {kvs : List (Key × V)} {vs : List (Key × Value)} (z : kvs.length ≤ sizeLine) (hd : (a == sysModules) = false) (rel : KV kvs vs) (dd : h'.DictOf (mixKind P w) a vs) :
    ObjOk P w H' h' a (.dK kvs) := ⟨z, hd, vs, rel, dd⟩

theorem d_setItem {H' : Hp} {Q : Unit → Shared → Prop} (hu : A.units + 1 < cLine) (I : Inv X pins σ H s) (g : DPut H a y v H') (ry : RelV y u) (rv : RelV v r) (h : ∀ s', Inv X pins σ H' s' → Q () s') :
    wpAny (model X.prog X.w) A (setItem (.ref a) u r) Q E s := by
  rcases g with ⟨kvs, k, e, ey, l, eH⟩ | ⟨kvs, k, b, e, ey, eb, l, eH⟩
  · subst ey eH
    obtain ⟨z, hd, vs, rel, dd⟩ := dk_of I.hok e
    have hz : vs.length ≤ sizeLine := by rw [← rel.length]; exact z
    have hl : (putK kvs k v).length ≤ sizeLine := by have := length_putK kvs k v; omega
    refine wpAny_setItem_pairs (hsz := hz) (kV_is ry) dd fun h' dd' hs => h _ ?_
    have he : ∃ q, h'.get? a = some q := let ⟨q, _, _, hq, _⟩ := dd'; ⟨q, hq⟩
    exact d_write I (by rw [e]; exact True.intro) hs he (dk_new hl hd (rel.put k rv) dd')
  · subst ey eH
    cases (show u = Value.ref b from ry)
    obtain ⟨z, hd, xs, rel, dd⟩ := dt_of I.hok e
    have hz : xs.length ≤ sizeLine := by rw [← Paired.length rel]; exact z
    have hl : (putK kvs k v).length ≤ sizeLine := by have := length_putK kvs k v; omega
    refine wpAny_setItem_heap (hsz := hz) (tupleKind_room_in1 hu) (key_of I.hok eb) dd fun h' dd' hs => h _ ?_
    obtain ⟨q, es, ep, hq, h2, h3, h4, _, h5⟩ := dd'
    refine d_write I (by rw [e]; exact True.intro) hs ⟨q, hq⟩ ⟨hl, hd, _, (rel.put k eb rv).keeps fun c ys ec => ?_, q, es, ep, hq, h2, h3, h4, h5⟩
    rw [upd_ne (ne_of ec e (fun z => nomatch z))]
    exact ec
end

section
variable {X : Cx} {pins : List (Addr × Obj)} {σ : St} {H : Hp} {s : Shared} {a : Addr} {kvs : List (Key × V)} {k : Key} {u : Value} {A : Around} {E : Value → Shared → Prop}

end




def NoSl (i : Expr) : Prop := ∀ ov iv, subscripted i false ov iv = operate [ov, iv] (getItem ov iv)
theorem subD_of {prog : Program} {w : World} {A : Around} {E : Value → Shared → Prop} {s : Shared} {env : Env} {value slice : Expr} {pos : Pos} {T id : String} {Q : Value → Shared → Prop}
    (hl : typeLookup (.type T) "__getitem__" = pure (some (.builtin id))) (hs : NoSl slice)
    (h : wpAny (model prog w) A (eval value env) (fun o s₁ => wpAny (model prog w) A (eval slice env) (fun i s₂ => s₂.TypeIs o T ∧ wpAny (model prog w) A (getItem o i) Q E s₂) E s₁) E s) :
    wpAny (model prog w) A (eval (.Subscript value slice pos) env) Q E s := by
  refine Subscript_ (wpAny_mono h (fun o s₁ h₁ => wpAny_mono h₁ (fun i s₂ h₂ => ?_) fun _ _ x => x) fun _ _ x => x)
  obtain ⟨hT, h₂⟩ := h₂
  unfold subscriptTail
  refine wpAny_bind ?_
  rw [getitemInPython_of_ne hT.not_modules]
  refine wpAny_bind (wpAny_specialOf hT hl ?_)
  have fin : wpAny (model prog w) A (subscripted slice false o i) (fun r s₃ => wpAny (model prog w) A (letTemporaryGo value o r >>= fun _ => pure r) Q E s₃) E s₂ := by
    rw [hs o i]
    exact wpAny_operating (wpAny_mono h₂ (fun r s₃ h₃ => wpAny_bind (wpAny_letTemporaryGo (wpAny_pure h₃))) fun _ _ x => x)
  first
    | exact wpAny_pure (wpAny_bind fin)
    | exact wpAny_bind (wpAny_pure (wpAny_bind fin))
    | exact wpAny_bind fin

theorem dict_typeIs {X : Cx} {pins : List (Addr × Obj)} {σ : St} {H : Hp} {s : Shared} {a : Addr} {y : V} {o : Option V} (I : Inv X pins σ H s) (g : DGet H a y o) : s.TypeIs (.ref a) "dict" := by
  rcases g with ⟨kvs, k, e, _, _⟩ | ⟨kvs, k, b, e, _, _, _⟩
  · obtain ⟨_, _, vs, _, dd⟩ := dk_rd I.hok e
    exact dd.typeIs
  · obtain ⟨_, _, xs, _, dd⟩ := dt_rd I.hok e
    exact dd.typeIs
def tDGet (td ty : TE) : TE := fun σ H Q => td σ H fun x H1 => ty σ H1 fun y H2 => ∃ a v, x = .ref a ∧ DGet H2 a y (some v) ∧ Q v H2

def tDIn (ty td : TE) : TE := fun σ H Q => ty σ H fun y H1 => td σ H1 fun x H2 => ∃ a o, x = .ref a ∧ DGet H2 a y o ∧ Q (.bl o.isSome) H2
def tDNotIn (ty td : TE) : TE := fun σ H Q => ty σ H fun y H1 => td σ H1 fun x H2 => ∃ a o, x = .ref a ∧ DGet H2 a y o ∧ Q (.bl (!o.isSome)) H2

def sDPut (td ty tv : TE) : TS := fun D σ H => tv σ H fun v H1 => td σ H1 fun x H2 => ty σ H2 fun y H3 => ∃ a H4, x = .ref a ∧ DPut H3 a y v H4 ∧ D.nx σ H4

section
variable {X : Cx} {o i e value : Expr} {pos pos' tpos : Pos} {td ty tv : TE}
theorem pe_dget (hu : X.A.units + 1 < cLine) (ho : PE X o td) (hi : PE X i ty) (hs : NoSl i) : PE X (.Subscript o i pos) (tDGet td ty) := by
  intro pins s σ H Q I h
  refine subD_of PySem.F.slot_dict_getitem.lookup hs (thn (ho pins s σ H _ I h) fun u s1 ⟨x, H1, I1, rx, q1⟩ => thn (hi pins s1 σ H1 _ I1 q1) fun iv s2 ⟨y, H2, I2, ry, a, v, ex, g, q2⟩ => ?_)
  subst ex
  obtain rfl : u = Value.ref a := rx
  exact ⟨dict_typeIs I2 g, d_getItem hu I2 g ry fun w' s3 I3 rw' => ⟨v, H2, I3, rw', q2⟩⟩
theorem pc_din (hu : X.A.units + 1 < cLine) (hi : PE X i ty) (ho : PE X o td) : PC X .In i o (tDIn ty td) := by
  intro pins s σ H Q I h
  refine thn (hi pins s σ H _ I h) fun iv s1 ⟨y, H1, I1, ry, q1⟩ => thn (ho pins s1 σ H1 _ I1 q1) fun u s2 ⟨x, H2, I2, rx, a, ov, ex, g, q2⟩ => ?_
  subst ex
  obtain rfl : u = Value.ref a := rx
  exact d_in hu I2 g ry fun s3 I3 => ⟨.bl ov.isSome, H2, I3, rfl, q2⟩
theorem pc_dnotin (hu : X.A.units + 1 < cLine) (hi : PE X i ty) (ho : PE X o td) : PC X .NotIn i o (tDNotIn ty td) := by
  intro pins s σ H Q I h
  refine thn (hi pins s σ H _ I h) fun iv s1 ⟨y, H1, I1, ry, q1⟩ => thn (ho pins s1 σ H1 _ I1 q1) fun u s2 ⟨x, H2, I2, rx, a, ov, ex, g, q2⟩ => ?_
  subst ex
  obtain rfl : u = Value.ref a := rx
  exact d_notIn hu I2 g ry fun s3 I3 => ⟨.bl (!ov.isSome), H2, I3, rfl, q2⟩
theorem ps_dput (hu : X.A.units + 1 < cLine) (ho : PE X o td) (hi : PE X i ty) (hv : PE X value tv) (hs : swapsWith value (some (.Subscript o i pos')) pos.line X.env = pure false) :
    PS X (.Assign [.Subscript o i pos'] value pos) (sDPut td ty tv) := by
  intro pins s σ H D I h
  refine wpAny_Assign_Subscript (thn (hv pins s σ H _ I h) fun r s1 ⟨v, H1, I1, rv, q1⟩ => thn (ho pins s1 σ H1 _ I1 q1) fun u s2 ⟨x, H2, I2, rx, q2⟩ => thn (hi pins s2 σ H2 _ I2 q2) fun iv s3 ⟨y, H3, I3, ry, a, H4, ex, g, q3⟩ => ?_) hs
  subst ex
  obtain rfl : u = Value.ref a := rx
  exact d_setItem hu I3 g ry rv fun s4 I4 => ⟨σ, H4, I4, q3⟩
end



theorem dk_empty {P : Program} {w : World} {H : Hp} (h : Heap) (hb : sysModules < h.objs.size) : ObjOk P w H (h.push { cls := .type "dict", data := .dict #[] }) h.objs.size (.dK []) :=
  ⟨Nat.zero_le _, beq_eq_false_iff_ne.mpr (Ne.symm (Nat.ne_of_lt hb)), [], .nil, Heap.DictOf.new h⟩
theorem dt_empty {P : Program} {w : World} {H : Hp} (h : Heap) (hb : sysModules < h.objs.size) : ObjOk P w H (h.push { cls := .type "dict", data := .dict #[] }) h.objs.size (.dT []) :=
  ⟨Nat.zero_le _, beq_eq_false_iff_ne.mpr (Ne.symm (Nat.ne_of_lt hb)), [], .nil, _, #[], 0, Heap.get?_push_size _ rfl, ⟨rfl, rfl, rfl⟩, rfl, rfl, List.nodup_nil⟩

def tDNewK : TE := fun _ H Q => ∀ p, H p = none → Q (.ref p) (upd H p (.dK []))
def tDNewT : TE := fun _ H Q => ∀ p, H p = none → Q (.ref p) (upd H p (.dT []))
section
variable {X : Cx} {pos : Pos}
theorem pe_dnewK : PE X (.Dict [] [] pos) tDNewK := fun pins s σ H Q I h =>
  wpAny_Dict_empty ⟨.ref s.heap.objs.size, _, I.laid (a := s.heap.objs.size) (o := .dK []) (t' := s.toks) (fun _ _ q => Heap.get?_push_of_some _ q) (Nat.le_refl _) (dk_empty s.heap I.big), rfl, h _ (I.hok.fresh (Nat.le_refl _))⟩
theorem pe_dnewT : PE X (.Dict [] [] pos) tDNewT := fun pins s σ H Q I h =>
  wpAny_Dict_empty ⟨.ref s.heap.objs.size, _, I.laid (a := s.heap.objs.size) (o := .dT []) (t' := s.toks) (fun _ _ q => Heap.get?_push_of_some _ q) (Nat.le_refl _) (dt_empty s.heap I.big), rfl, h _ (I.hok.fresh (Nat.le_refl _))⟩
end


def tPairs : List (TE × TE) → St → Hp → (List (V × V) → Hp → Prop) → Prop
  | [], _, H, Q => Q [] H
  | (tk, tv) :: r, σ, H, Q => tk σ H fun x H1 => tv σ H1 fun y H2 => tPairs r σ H2 fun ps H3 => Q ((x, y) :: ps) H3
abbrev VV : List (V × V) → List (Value × Value) → Prop := Paired fun p q => RelV p.1 q.1 ∧ RelV p.2 q.2
def PPs (X : Cx) (pos : Pos) (keys : List (Option Expr)) (values : List Expr) (trs : List (TE × TE)) : Prop :=
  ∀ (pins : List (Addr × Obj)) (s : Shared) (σ : St) (H : Hp) (Q : List (V × V) → Hp → Prop), Inv X pins σ H s → tPairs trs σ H Q →
    wpAny (model X.prog X.w) X.A (evalPairs (pairTrees keys values X.env pos)) (fun vs s' => ∃ ps H', Inv X pins σ H' s' ∧ VV ps vs ∧ Q ps H') X.xe s
theorem pps_nil {X : Cx} {pos : Pos} : PPs X pos [] [] [] := fun pins s σ H Q I h => pairTrees_nil_walk ⟨[], H, I, .nil, h⟩
theorem pps_cons {X : Cx} {pos : Pos} {k v : Expr} {ks : List (Option Expr)} {vs : List Expr} {tk tv : TE} {trs : List (TE × TE)} (hk : PE X k tk) (hv : PE X v tv) (hr : PPs X pos ks vs trs) :
    PPs X pos (some k :: ks) (v :: vs) ((tk, tv) :: trs) := fun pins s σ H Q I h =>
  pairTrees_cons_walk (thn (hk pins s σ H _ I h) fun u s1 ⟨x, H1, I1, rx, q1⟩ => thn (hv pins s1 σ H1 _ I1 q1) fun w2 s2 ⟨y, H2, I2, ry, q2⟩ =>
    thn (hr pins s2 σ H2 _ I2 q2) fun ws s3 ⟨ps, H3, I3, rel, q3⟩ => ⟨(x, y) :: ps, H3, I3, .cons ⟨rx, ry⟩ rel, q3⟩)

def mergeK (kvs more : List (Key × V)) : List (Key × V) := more.foldl (fun acc kv => putK acc kv.1 kv.2) kvs
theorem KV.merge : ∀ {more : List (Key × V)} {rs : List (Key × Value)} {kvs : List (Key × V)} {vs : List (Key × Value)}, KV more rs → KV kvs vs → KV (mergeK kvs more) (merged vs rs) := by
  intro more rs kvs vs r
  unfold KV at r
  induction r generalizing kvs vs with
  | nil => intro q; exact q
  | @cons p q ps qs h t ih =>
    intro r0
    have e : KV (putK kvs p.1 p.2) (stored vs q.1 q.2) := by
      have := r0.put p.1 h.2
      rw [← h.1]; exact this
    exact ih e
theorem length_mergeK : ∀ (more kvs : List (Key × V)), (mergeK kvs more).length ≤ kvs.length + more.length
  | [], kvs => by show kvs.length ≤ kvs.length + 0; omega
  | p :: r, kvs => by
    have h1 := length_mergeK r (putK kvs p.1 p.2)
    have h2 := length_putK kvs p.1 p.2
    show (mergeK (putK kvs p.1 p.2) r).length ≤ _
    rw [List.length_cons]; omega
theorem carries_of {P : Program} {w : World} : ∀ {kvs : List (Key × V)} {ws : List (Value × Value)}, VV (kvs.map fun kv => (kV kv.1, kv.2)) ws → ∃ rs, Carries (mixKind P w) ws rs ∧ KV kvs rs
  | [], _, r => by rw [List.map_nil] at r; cases r; exact ⟨[], True.intro, .nil⟩
  | p :: kvs, _, r => by
    rw [List.map_cons] at r
    cases r with
    | @cons a b as bs h t =>
      obtain ⟨rs, c, q⟩ := carries_of (P := P) (w := w) t
      obtain ⟨b1, b2⟩ := b
      exact ⟨(p.1, b2) :: rs, ⟨kV_is h.1, rfl, c⟩, .cons ⟨rfl, h.2⟩ q⟩

def tDisp (trs : List (TE × TE)) : TE := fun σ H Q => ∀ p, H p = none → tPairs trs σ (upd H p (.dK [])) fun ps H2 => H2 p = some (.dK []) ∧ ∃ kvs : List (Key × V), ps = kvs.map (fun kv => (kV kv.1, kv.2)) ∧ kvs.length ≤ 15 ∧ Q (.ref p) (upd H2 p (.dK (mergeK [] kvs)))
theorem pe_disp {X : Cx} {pos : Pos} {keys : List (Option Expr)} {values : List Expr} {trs : List (TE × TE)} (h : PPs X pos keys values trs) (hall : keys.all (·.isSome) = true) (hl : keys.length = values.length) (h0 : keys ≠ [])
    (h15 : keys.length ≤ 15) : PE X (.Dict keys values pos) (tDisp trs) := by
  intro pins s σ H Q I q
  have hn := I.hok.fresh (Nat.le_refl s.heap.objs.size)
  have I1 := I.laid (a := s.heap.objs.size) (o := .dK []) (h' := s.heap.push { cls := .type "dict", data := .dict #[] }) (t' := s.toks) (fun _ _ q => Heap.get?_push_of_some _ q) (Nat.le_refl _) (dk_empty s.heap I.big)
  refine wpAny_Dict_walk (knd := mixKind X.prog X.w) hall hl h0 h15 (thn (h pins _ σ _ _ I1 (q _ hn)) fun ws s2 ⟨ps, H2, I2, rel, e, kvs, ep, lk, q2⟩ => ?_)
  subst ep
  obtain ⟨rs, c, rk⟩ := carries_of (P := X.prog) (w := X.w) rel
  obtain ⟨z, hd, vs0, r0, dd⟩ := dk_of I2.hok e
  cases r0
  refine ⟨rs, c, dd, fun h' dd' hs => ⟨.ref s.heap.objs.size, _, ?_, rfl, q2⟩⟩
  have hz : (mergeK [] kvs).length ≤ sizeLine := by
    have h1 := length_mergeK kvs []
    rw [List.length_nil] at h1
    rw [sizeLine_eq]; omega
  have he : ∃ q, h'.get? s.heap.objs.size = some q := let ⟨q, _, _, hq, _⟩ := dd'; ⟨q, hq⟩
  exact d_write I2 (by rw [e]; exact True.intro) hs he (dk_new hz hd (rk.merge .nil) dd')




structure M1 (X : Cx) (o : Expr) (m : Str) (apos : Pos) (e : Expr) (cpos : Pos) : Prop where
  base : attributeBase o m X.env (eval o X.env) = eval o X.env
  few : ((backTo cpos (starEach [e] X.env)).all (fun x => !x.1) && (backToKw cpos (keywordEach [] X.env)).all (fun x => x.1.isSome)
    && decide (([e] : List Expr).length + ([] : List Keyword).length + (if ([] : List Keyword).isEmpty then 0 else 1) < 30)) = true
  line : (apos.endLine == cpos.line) = true
  trees : backTo cpos (starEach [e] X.env) = [(false, eval e X.env)]
structure M2 (X : Cx) (o : Expr) (m : Str) (apos : Pos) (e f : Expr) (cpos : Pos) : Prop where
  base : attributeBase o m X.env (eval o X.env) = eval o X.env
  few : ((backTo cpos (starEach [e, f] X.env)).all (fun x => !x.1) && (backToKw cpos (keywordEach [] X.env)).all (fun x => x.1.isSome)
    && decide (([e, f] : List Expr).length + ([] : List Keyword).length + (if ([] : List Keyword).isEmpty then 0 else 1) < 30)) = true
  line : (apos.endLine == cpos.line) = true
  trees : backTo cpos (starEach [e, f] X.env) = [(false, eval e X.env), (false, eval f X.env)]


def IsD (H : Hp) (a : Addr) : Prop := (∃ kvs, Rd H a (.dK kvs)) ∨ ∃ kvs, Rd H a (.dT kvs)
theorem isD_at {X : Cx} {pins : List (Addr × Obj)} {σ : St} {H : Hp} {s : Shared} {a : Addr} (I : Inv X pins σ H s) (d : IsD H a) :
    s.TypeIs (.ref a) "dict" ∧ (∀ b, Value.ref a = .ref b → ∃ ob, s.heap.get? b = some ob ∧ ob.dict = none) ∧ (a == sysModules) = false := by
  rcases d with ⟨kvs, e⟩ | ⟨kvs, e⟩
  · obtain ⟨_, hd, vs, _, dd⟩ := dk_rd I.hok e
    refine ⟨dd.typeIs, fun b q => ?_, hd⟩
    cases q
    obtain ⟨ob, _, _, h1, h2, _⟩ := dd
    exact ⟨ob, h1, h2.2.1⟩
  · obtain ⟨_, hd, xs, _, dd⟩ := dt_rd I.hok e
    refine ⟨dd.typeIs, fun b q => ?_, hd⟩
    cases q
    obtain ⟨ob, _, _, h1, h2, _⟩ := dd
    exact ⟨ob, h1, h2.2.1⟩

section
variable {X : Cx} {pins : List (Addr × Obj)} {σ : St} {H : Hp} {s : Shared} {a : Addr} {y d : V} {u r : Value} {o : Option V} {A : Around} {E : Value → Shared → Prop}

theorem d_get2 {Q : Value → Shared → Prop} (hu : A.units + 1 < cLine) (I : Inv X pins σ H s) (g : DGet H a y o) (ry : RelV y u) (rd : RelV d r) (h : ∀ w' s', Inv X pins σ H s' → RelV (o.getD d) w' → Q w' s') :
    wpAny (model X.prog X.w) A (call (.builtin "dict.get") [.ref a, u, r]) Q E s := by
  rcases g with ⟨kvs, k, e, ey, l⟩ | ⟨kvs, k, b, e, ey, eb, l⟩
  · subst ey
    obtain ⟨z, hd, vs, rel, dd⟩ := dk_rd I.hok e
    refine call_meetsIn PySem.F.slot_dict_get dd.typeIs PySem.F.entry_dict_get (PySem.F.args_dict_get_3 _ _ _) (meets_dict_get_default (mixKind X.prog X.w) a (kV_is ry) hd r) ⟨_, dd.mapOf, h _ _ (I.tok _) ?_⟩
    rw [l]
    exact (rel.val k).getD rd
  · subst ey
    cases (show u = Value.ref b from ry)
    obtain ⟨z, hd, xs, rel, dd⟩ := dt_rd I.hok e
    refine call_meetsIn PySem.F.slot_dict_get dd.typeIs PySem.F.entry_dict_get (PySem.F.args_dict_get_3 _ _ _) (meetsH_dict_get_default (tupleKind (mixKind X.prog X.w)) a b hd r) ⟨tupleKind_room_in1 hu, k, xs, key_of I.hok eb, dd, h _ _ (I.tok _) ?_⟩
    rw [l]
    exact (rel.val k).getD rd
end

def tDGet2 (td ty tx : TE) : TE := fun σ H Q => td σ H fun x H1 => ∃ a, x = .ref a ∧ IsD H1 a ∧ ty σ H1 fun y H2 => tx σ H2 fun z H3 => ∃ o, DGet H3 a y o ∧ Q (o.getD z) H3

section
variable {X : Cx} {o e f : Expr} {apos cpos : Pos} {td ty tx : TE}
theorem pe_dget2 (hu : X.A.units + 1 < cLine) (ho : PE X o td) (he : PE X e ty) (hf : PE X f tx) (m : M2 X o "get" apos e f cpos) : PE X (.Call (.Attribute o "get" apos) [e, f] [] cpos) (tDGet2 td ty tx) := by
  intro pins s σ H Q I h
  refine wpAny_Call_method m.base m.few m.line PySem.F.plainAttrs_dict PySem.F.slot_dict_get PySem.F.type_dict_get (thn (ho pins s σ H _ I h) fun u s1 ⟨x, H1, I1, rx, a, ex, d, q1⟩ => ?_)
  subst ex
  obtain rfl : u = Value.ref a := rx
  obtain ⟨t1, t2, _⟩ := isD_at I1 d
  refine ⟨t1, t2, ?_⟩
  rw [m.trees]
  refine Calls.callWith_builtin rfl (Calls.evalArgs_plain (Calls.spliced_cons (thn (he pins s1 σ H1 _ I1 q1) fun iv s2 ⟨y, H2, I2, ry, q2⟩ =>
    Calls.spliced_cons (thn (hf pins s2 σ H2 _ I2 q2) fun fv s3 ⟨z, H3, I3, rz, ov, g, q3⟩ => Calls.spliced_nil ?_))))
  exact d_get2 hu I3 g ry rz fun w' s4 I4 rw' => ⟨_, H3, I4, rw', q3⟩
end


section
variable {X : Cx} {pins : List (Addr × Obj)} {σ : St} {H : Hp} {s : Shared} {a : Addr} {kvs : List (Key × V)} {A : Around} {E : Value → Shared → Prop}
end


section
variable {X : Cx} {pins : List (Addr × Obj)} {σ : St} {H : Hp} {s : Shared} {a : Addr} {y : V} {u : Value} {A : Around} {E : Value → Shared → Prop}

end
end L2

namespace Att
open PySem PySem.W PySem.Calls PyProof.Rows


theorem ints_of_wellAll {P : Params} {h : Heap} : ∀ (ns : List Int) (vs : List Value), WellAll P h vs (ns.map WData.int) → IntsAre vs ns := by
  intro ns
  induction ns with
  | nil =>
    intro vs w
    rw [List.map_nil] at w
    cases w
    exact .nil
  | cons n ns ih =>
    intro vs w
    rw [List.map_cons] at w
    cases w with
    | cons a b =>
      cases a
      exact .cons _ _ (ih _ b)

theorem script_of {l : OpenLaw} {n : Nat} (hn : l.most = some n) {P : Params} {h : Heap} {args : List WData} {vals : List Value}
    (hpre : l.row.toRowW.claim.pre args = true) (hwl : WellAll P h vals args) :
    ∃ a vs ns, vals = [Value.ref a] ∧ args = [WData.list (ns.map WData.int)] ∧ h.get? a = some { cls := .type "list", data := .seq vs.toArray } ∧ IntsAre vs ns ∧ ns.length ≤ n := by
  have hsh : WShape.hasAll [] args [.list .int] = true := (pre_splitW hpre).1
  have hc : l.pre.holds [] { args := args } = true := (pre_splitW hpre).2
  obtain ⟨d, r, rfl, h1, h2⟩ := hasAllW_cons hsh
  obtain rfl := hasAllW_nil h2
  obtain ⟨xs, rfl, h3⟩ := hasW_list h1
  obtain ⟨ns, rfl⟩ := items_int h3
  have hlen : ns.length ≤ n := by
    unfold OpenLaw.pre at hc
    have h4 : (WTm.not (.lt (.lit (.int (n : Int))) (.len (.arg 0)))).holds [] { args := [.list (ns.map .int)] } = true := by
      have h4 := (holds_andW hc).1
      rw [hn] at h4
      exact h4
    have h5 := condW_of h4 (w_not (w_lt w_lit (w_len_list (w_arg rfl))))
    rw [List.length_map] at h5
    refine Nat.le_of_not_lt fun q => ?_
    have q' : (n : Int) < ((ns.length : Nat) : Int) := by omega
    first
      | (rw [decide_eq_true q'] at h5; exact absurd h5 (by decide))
      | (simp at h5; omega)
  cases hwl with
  | cons w1 w2 =>
    cases w2
    cases w1 with
    | list ho hall => exact ⟨_, _, ns, rfl, rfl, ho, ints_of_wellAll ns _ hall, hlen⟩

theorem post_true (l : OpenLaw) (args : List WData) : l.row.toRowW.claim.post args (.bool true) args = true :=
  postW_of (r := l.row.toRowW) (X := (true == true))
    (show WShape.has [] (.bool true) .bool = true by first | rfl | decide | simp [WShape.has, WShape.arms, WShape.armsAll])
    (show (WTm.eq .res (.lit (.bool true))).value [] { args := args, res := some (.bool true), after := args } = some (.bool (true == true)) from w_eq_bool (w_res rfl) w_lit) rfl


theorem attach_call {l : OpenLaw} {n : Nat} {q : Program} {loose : List Str} {XP : (Str → Option Value) → Heap → Prop} {YP : World → Heap → Prop} {d : DefRec}
    (hn : l.most = some n) (hdf : d.params.defaults = [])
    (call : ∀ (w : World) (s₀ s₁ : Shared) (mg mb : Str → Option Value) (fa : Addr) (o : Obj) (pm cd doc : Value) (a : Addr) (vs : List Value) (ns : List Int),
      Ground q loose [] XP w s₀ mg mb s₁.heap → YP w s₁.heap →
      s₁.heap.get? fa = some o → o.data = .func (docDef d.name d.params d.body d.scope pm cd doc) → s₁.heap.CodeRec cd d.name → mg d.name = some (.ref fa) →
      s₁.heap.get? a = some { cls := .type "list", data := .seq vs.toArray } → IntsAre vs ns → ns.length ≤ n → s₁.gens = #[] →
      codeAny (model l.prog w) callerA (.call (.ref fa) ⟨[.ref a], []⟩) (fun r s' => r = .ok (.ret (.bool true)) ∧ OldK s₁.heap s'.heap ∧ s'.os = s₁.os ∧ AllBare s'.gens) s₁) :
    WalkO q loose XP YP l.row.toRowW d [] (fun f vs => PySem.call f vs) := by
  intro w s₀ s₁ mg mb G Y fa o pm cd doc dV kV ho hd hcd hD hmg hg args vals as hpre hlay hrd hwl hlo
  obtain rfl : dV = .none := Dflts.none hD hdf
  obtain rfl : kV = .none := Dflts.noKw hD
  obtain ⟨a, vs, ns, rfl, rfl, hobj, hints, hlen⟩ := script_of hn hpre hwl
  refine enter_call (codeAny_mono (call w s₀ s₁ mg mb fa o pm cd doc a vs ns G Y ho (fd_plain hd) hcd hmg hobj hints hlen hg) fun r s' hq => ?_)
  obtain ⟨rfl, h2, h3, h4⟩ := hq
  exact ⟨.inl ⟨.bool true, .bool true, [], rfl, fun _ => rfl, .bool true, post_true l _, fun _ => ⟨List.Pairwise.nil, fun _ hm => (nomatch hm)⟩⟩, h2, h3, h4⟩


section
variable {prog : Program} {w : World} {A : Around} {E : Value → Shared → Prop} {s : Shared} {K : Frag}


end
end Att

namespace L2
open PySem PySem.Spec PyProof.Rows

theorem vals_ints : ∀ {vs : List Value} {ns : List Int}, IntsAre vs ns → Vals (ns.map V.int) vs
  | _, _, .nil => .nil
  | _, _, .cons n t h => .cons ⟨t, rfl⟩ (vals_ints h)


def Only (H : Hp) : Prop := ∀ b, H b = none ∨ ∃ o xs, H b = some (.frz o (.lst xs))


theorem law_call {P : Program} {w : World} {K : PySem.W.Frag} {mg mb : Str → Option Value} {CX : CXT} {k : Nat} {fa a : Addr} {fd : FuncData} {x : Str} {sp : Sp} {s₁ : Shared} {vs : List Value} {ns : List Int}
    (KX : K.In s₁.heap) (hns : s₁.heap.Ns mainGlobals mg) (hb : s₁.heap.Ns builtinsNs mb) (hbb : ∀ x : Str, x ≠ "__name__" → mb x = bootBuiltins x) (hlim : s₁.heap.NoLimit) (hg : s₁.gens = #[])
    (ha : s₁.heap.get? a = some { cls := .type "list", data := .seq vs.toArray }) (hi : IntsAre vs ns) (hl : ns.length ≤ sizeLine) (hr : Room k callerA)
    (F : ∀ base : Heap, K.In base → base.Ns mainGlobals mg → FnOk P w K mg base CX k fa fd [x] sp) (hbind : ∀ (s : Shared) (u : Value), BindsTo s fd ⟨[u], []⟩ [(x, u)])
    (hsp : ∀ H : Hp, Only H → SqL K H a (ns.map V.int) → sp [.ref a] H (fun v _ => v = .bl true) fun _ _ _ => False)
    (hCX : ∀ H e s', CX [] H s₁ (fun _ _ _ => False) e s' → False) :
    codeAny (model P w) callerA (.call (.ref fa) ⟨[.ref a], []⟩) (fun r s' => r = .ok (.ret (.bool true)) ∧ OldK s₁.heap s'.heap ∧ s'.os = s₁.os ∧ AllBare s'.gens) s₁ := by
  have rv := vals_ints hi
  have lenV := hi.length
  -- from an abstract heap in which nothing but the script may be tracked
  have core : ∀ H : Hp, Only H → SqL K H a (ns.map V.int) → HOk P w H s₁.heap → (∀ b, H b ≠ none → b = a) → (H a ≠ none → K.lookup a = none) →
      codeAny (model P w) callerA (.call (.ref fa) ⟨[.ref a], []⟩) (fun r s' => r = .ok (.ret (.bool true)) ∧ OldK s₁.heap s'.heap ∧ s'.os = s₁.os ∧ AllBare s'.gens) s₁ := by
    intro H hO hS hok hA hK
    have base_of : ∀ {b : Addr} {o : Obj}, s₁.heap.get? b = some o → H b = none → (hidT s₁.heap H).get? b = some o := fun e n => hidT_get e n
    have noA : ∀ {b : Addr} {o : Obj} {es : Array DictEntry} {ep : Nat}, s₁.heap.get? b = some o → o.data = .dict es ep → H b = none := fun {b o es ep} e d => by
      cases q : H b with
      | none => rfl
      | some u =>
        have e' : b = a := hA b (by rw [q]; simp)
        subst e'
        rw [ha] at e; cases e
        have d' : Data.seq vs.toArray _ = Data.dict es ep := d
        cases d'
    have nsK : ∀ {b : Addr} {m : Str → Option Value}, s₁.heap.Ns b m → (hidT s₁.heap H).Ns b m := fun {b m} ⟨o, es, ep, e, d, r⟩ => ⟨o, es, ep, base_of e (noA e d), d, r⟩
    have hKb : K.In (hidT s₁.heap H) := fun b o e => base_of (KX b o e) (by
      cases q : H b with
      | none => rfl
      | some u =>
        have e' : b = a := hA b (by rw [q]; simp)
        subst e'
        rw [hK (by rw [q]; simp)] at e; cases e)
    have hM : Mod K mg (hidT s₁.heap H) := ⟨hKb, nsK hns, ⟨mb, nsK hb, hbb⟩, let ⟨mc, h1, h2⟩ := hlim; ⟨mc, nsK h1, h2⟩⟩
    have e0 : Env0 P w K mg (hidT s₁.heap H) callerA [] s₁ H := ⟨rfl, hM, fun b o e => of_hidT e, Nat.le_of_eq (hidT_size _ _), trivial, fun b hb => absurd (show b ∈ ([] : List Addr) from hb) (by simp), hok, .of_eq hg⟩
    refine codeAny_mono ((F _ hKb (nsK hns)).run callerA [] s₁ H ⟨[.ref a], []⟩ [.ref a] [.ref a] _ _ hr e0 (hbind s₁ (.ref a)) (.cons rfl .nil) (hsp H hO hS)) fun r s' h => ?_
    cases r with
    | error e => exact (hCX H e s' h).elim
    | ok fl =>
      cases fl with
      | next => exact False.elim h
      | brk => exact False.elim h
      | cont => exact False.elim h
      | ret u =>
        obtain ⟨v, H', os, bare, un, hok', r', q⟩ := h
        have q' : v = .bl true := q
        subst q'
        obtain rfl : u = Value.bool true := r'
        refine ⟨rfl, OldK.of_keep fun b o e => ?_, os, bare⟩
        cases q : H b with
        | none => exact un.keep b o e q (by intro z; exact absurd (show b ∈ ([] : List Addr) from z) (by simp)) (by simp)
        | some u =>
          rcases hO b with z | ⟨ob, xs, z⟩
          · rw [q] at z; cases z
          · have z2 := un.frzs b ob _ z
            obtain ⟨e1, _⟩ := hok b _ z
            obtain ⟨e2, _⟩ := hok' b _ z2
            rw [e] at e1; cases e1
            exact e2
  cases hk : K.lookup a with
  | some o =>
    -- the script is one of the module's own objects
    have e := KX a o hk
    rw [ha] at e
    cases e
    refine core (fun _ => none) (fun _ => .inl rfl) (.inr ⟨_, vs.toArray, _, hk, rfl, rfl, rfl, by rw [List.size_toArray, lenV]; exact hl, by simpa using rv⟩) (fun b u z => by have z' : (none : Option HO) = some u := z; cases z') (fun b z => absurd rfl z) fun z => absurd rfl z
  | none =>
    refine core (fun b => if b = a then some (.frz { cls := .type "list", data := .seq vs.toArray } (.lst (ns.map V.int))) else none) (fun b => ?_) (.inl (.inr ⟨{ cls := .type "list", data := .seq vs.toArray }, if_pos rfl⟩)) (fun b u z => ?_) (fun b z => ?_) fun _ => hk
    · by_cases hb : b = a
      · exact .inr ⟨_, _, if_pos hb⟩
      · exact .inl (if_neg hb)
    · by_cases hb : b = a
      · have z' := (if_pos hb).symm.trans z
        cases z'
        subst hb
        exact ⟨ha, by rw [List.length_map]; exact hl, vs, _, rv, ha⟩
      · have z' := (if_neg hb).symm.trans z
        cases z'
    · by_cases hb : b = a
      · exact hb
      · exact absurd (if_neg hb) z
end L2

namespace L2
open PySem PySem.Spec PyProof.Rows

theorem walk_of {l : PySem.W.OpenLaw} {n k : Nat} {q : Program} {loose : List Str} {XP : (Str → Option Value) → Heap → Prop} {YP : World → Heap → Prop} {d : DefRec} {K : Params → PySem.W.Frag} {CX : World → CXT} {sp : World → Sp} {x : Str}
    (hn : l.most = some n) (hn2 : n ≤ sizeLine) (hdf : d.params.defaults = []) (hr : Room k callerA)
    (hY : ∀ (w : World) (h : Heap), YP w h → (K w.params).In h)
    (F : ∀ (w : World) (mg : Str → Option Value) (fa : Addr) (h : Heap), (K w.params).In h → h.Ns mainGlobals mg → mg d.name = some (.ref fa) →
      ∃ fd : FuncData, (∀ (s : Shared) (u : Value), BindsTo s fd ⟨[u], []⟩ [(x, u)]) ∧
        ∀ base : Heap, (K w.params).In base → base.Ns mainGlobals mg → FnOk l.prog w (K w.params) mg base (CX w) k fa fd [x] (sp w))
    (hsp : ∀ (w : World) (H : Hp) (a : Addr) (ns : List Int), ns.length ≤ n → Only H → SqL (K w.params) H a (ns.map V.int) → sp w [.ref a] H (fun v _ => v = .bl true) fun _ _ _ => False)
    (hCX : ∀ (w : World) (H : Hp) (s : Shared) (e : Value) (s' : Shared), CX w [] H s (fun _ _ _ => False) e s' → False) :
    PySem.W.WalkO q loose XP YP l.row.toRowW d [] (fun f vs => PySem.call f vs) := by
  refine Att.attach_call hn hdf fun w s₀ s₁ mg mb fa o pm cd doc a vs ns G Y ho hd hcd hmg hobj hints hlen hg => ?_
  have KX := hY w _ Y
  obtain ⟨fd, hb, hF⟩ := F w mg fa _ KX G.T.g hmg
  exact law_call KX G.T.g G.T.b G.T.builtins G.T.nolimit hg hobj hints (Nat.le_trans hlen hn2) hr hF hb (fun H hO hS => hsp w H a ns hlen hO hS) fun H e s' => hCX w H s₁ e s'

end L2




namespace L2
open PySem PySem.Spec PyProof.Rows



def inClass (s : Stmt) (j : Nat) : Stmt := match s with
  | .ClassDef _ _ _ body _ _ _ _ _ _ _ => body.getD j (.Pass ⟨0, 0, 0, 0⟩)
  | _ => .Pass ⟨0, 0, 0, 0⟩
def defArgs (s : Stmt) : Arguments := match s with
  | .FunctionDef _ a _ _ _ _ _ _ _ _ => a
  | _ => { posonlyargs := [], args := [], vararg := none, kwonlyargs := [], kw_defaults := [], kwarg := none, defaults := [] }
def defBody (s : Stmt) : List Stmt := match s with
  | .FunctionDef _ _ b _ _ _ _ _ _ _ => b
  | _ => []
def defScope (s : Stmt) : Scope := match s with
  | .FunctionDef _ _ _ _ _ _ sc _ _ _ => sc
  | _ => { kind := .function, names := [], isGenerator := false, isCoroutine := false }


abbrev CX0 : CXT := fun _ _ _ _ _ _ => False
abbrev E0 : XK := fun _ _ _ => False
theorem pass0 {X : Cx} : Passes CX0 X E0 := fun _ _ _ _ _ _ _ h => h.elim


structure Fun (K : PySem.W.Frag) (x qual : Str) (st : Stmt) (f : Addr) (fd : FuncData) : Prop where
  ex : ∃ (oc : Value) (od : Option Addr) (kV doc pm : Value) (an : Option Addr) (cdv ct : Value) (osl : Array (Option Value)),
    fd = PySem.W.fnOf x qual (defArgs st) (defBody st) (defScope st) .none kV doc pm an cdv ct ∧ K.lookup f = some ⟨oc, od, .func fd, osl⟩ ∧ PySem.W.codeIn K cdv qual = true
  kp : PySem.W.keepIn K (.ref f) = true
section
variable {P : Program} {w : World} {K : PySem.W.Frag} {mg : Str → Option Value} {base : Heap}

theorem Fun.ok {x qual : Str} {st : Stmt} {f : Addr} {fd : FuncData} {N ps : List Str} {k : Nat} {sp : Sp} (F : Fun K x qual st f fd) (S : FnScope N ps (defScope st)) (len : ∀ vs H Q E, sp vs H Q E → vs.length = ps.length)
    (hbody : ∀ (cdv : Value) (A : Around) (outer : List Env) (s : Shared) (H : Hp) (vs : List V) (Q : VK) (E : XK), Room k (A.deeper (envOfC qual (defScope st) s.heap.objs.size f cdv)) → sp vs H Q E →
      ∃ t, PSs (cxOf CX0 P w K mg base N qual (defScope st) f cdv A outer s H E).nox (defBody st) t ∧ t { nx := fun _ H' => Q .non H', rt := Q } (start N vs) H) : FnOk P w K mg base CX0 (k + 1) f fd ps sp := by
  obtain ⟨oc, od, kV, doc, pm, an, cdv, ct, osl, rfl, lk, hcd⟩ := F.ex
  refine fn_of lk hcd S len fun A outer s H vs Q E hr hsp => ?_
  obtain ⟨t, h, q⟩ := hbody cdv A outer s H vs Q E hr hsp
  exact ⟨t, h.nox, q⟩

theorem Fun.binds {x qual : Str} {st : Stmt} {f : Addr} {fd : FuncData} {ps : List Str} (F : Fun K x qual st f fd)
    (h : ∀ (kV doc pm : Value) (an : Option Addr) (cdv ct : Value) (us : List Value), us.length = ps.length → bindArgs (PySem.W.fnOf x qual (defArgs st) (defBody st) (defScope st) .none kV doc pm an cdv ct) ⟨us, []⟩ = pure (ps.zip us)) : Binds K fd ps [] := by
  obtain ⟨oc, od, kV, doc, pm, an, cdv, ct, osl, rfl, lk, hcd⟩ := F.ex
  exact .all (h kV doc pm an cdv ct)
theorem fun_mk {x qual : Str} {st : Stmt} {f : Addr} {oc : Value} {od an : Option Addr} {osl : Array (Option Value)} {kV doc pm cdv ct : Value} (l : K.lookup f = some ⟨oc, od, .func (PySem.W.fnOf x qual (defArgs st) (defBody st) (defScope st) .none kV doc pm an cdv ct), osl⟩)
    (c : PySem.W.codeIn K cdv qual = true) (k : PySem.W.keepIn K (.ref f) = true) : Fun K x qual st f (PySem.W.fnOf x qual (defArgs st) (defBody st) (defScope st) .none kV doc pm an cdv ct) := ⟨⟨oc, od, kV, doc, pm, an, cdv, ct, osl, rfl, l, c⟩, k⟩
end
theorem hu_of {A : Around} {k : Nat} (hr : Room k A) : A.units + 1 < cLine := Nat.lt_of_le_of_lt (Nat.add_le_add_left (by decide : 1 ≤ 64) _) hr.units
section
variable {X : Cx}
theorem pv (i : Nat) {x : Str} {pos : Pos} (hN : X.N[i]? = some x := by rfl) (hv : Vis X.env.scope x := by first | exact Or.inl rfl | exact Or.inr (Or.inl rfl) | exact Or.inr (Or.inr rfl)) (hd : (x == ("__debug__" : Str)) = false := by decide)
    (hcd : (x == ("__classdict__" : Str)) = false := by decide) : PE X (.Name x pos) (tVar i) := pe_var hN hv hd hcd
end


theorem iteF {A B : Prop} (h : B) : if false = true then A else B := by
  rw [if_neg Bool.false_ne_true]
  exact h
theorem iteT {A B : Prop} (h : A) : if true = true then A else B := by
  rw [if_pos rfl]
  exact h
theorem ite2 {c A B : Prop} [Decidable c] (h1 : c → A) (h2 : ¬ c → B) : if c then A else B := by
  by_cases h : c
  · rw [if_pos h]
    exact h1 h
  · rw [if_neg h]
    exact h2 h
def Same (H H' : Hp) : Prop := ∀ b o, H b = some o → H' b = some o
theorem Same.refl (H : Hp) : Same H H := fun _ _ h => h
theorem Same.trans {H H1 H2 : Hp} (a : Same H H1) (b : Same H1 H2) : Same H H2 := fun c o h => b c o (a c o h)
theorem Same.free {H H' : Hp} (e : Same H H') {l : Addr} (h : H' l = Option.none) : H l = Option.none := by
  cases q : H l with
  | none => rfl
  | some o =>
    rw [e l o q] at h
    cases h
theorem Same.seq {K : PySem.W.Frag} {H H' : Hp} {a : Addr} {xs : List V} (e : Same H H') (h : SqL K H a xs) : SqL K H' a xs := by
  rcases h with (h | ⟨o, h⟩) | h
  · exact .inl (.inl (e _ _ h))
  · exact .inl (.inr ⟨o, e _ _ h⟩)
  · exact .inr h

end L2


set_option linter.all false
set_option maxRecDepth 100000
set_option maxHeartbeats 4000000
namespace L2
open PySem PySem.Spec PyProof.Rows

theorem ObjOk.at_ {P : Program} {w : World} {H : Hp} {h : Heap} {a : Addr} {o : HO} (x : ObjOk P w H h a o) : ∃ u, h.get? a = some u := by
  cases o with
  | lst xs => obtain ⟨_, _, _, _, e⟩ := x; exact ⟨_, e⟩
  | tup xs => obtain ⟨_, _, _, o, e, _⟩ := x; exact ⟨_, e⟩
  | dK kvs => obtain ⟨_, _, _, _, o, _, _, e, _⟩ := x; exact ⟨_, e⟩
  | dT kvs => obtain ⟨_, _, _, _, o, _, _, e, _⟩ := x; exact ⟨_, e⟩
  | set S n => obtain ⟨o, _, _, _, e, _⟩ := x; exact ⟨_, e⟩
  | ins C dx fs => obtain ⟨_, _, _, e, _⟩ := x; exact ⟨_, e⟩
  | own y => obtain ⟨o, e⟩ := x; exact ⟨_, e⟩
  | xd fs => obtain ⟨_, ⟨o, _, _, e, _⟩, _⟩ := x; exact ⟨_, e⟩
  | rng lo hi => obtain ⟨_, _, _, e⟩ := x; exact ⟨_, e⟩
  | frz ob u => obtain ⟨e, _⟩ := x; exact ⟨_, e⟩
  | tbl ps => exact ⟨_, (show h.get? a = some _ from x)⟩
  | met f y => exact ⟨_, (show h.get? a = some _ from x)⟩
  | ext φ => obtain ⟨_, e, _⟩ := x; exact e


structure Fly (P : Program) (w : World) (l : List Env) (H : Hp) (s : Shared) (e : Addr) (cls : Value) (H' : Hp) (s' : Shared) : Prop where
  os : s'.os = s.os
  bare : AllBare s'.gens
  un : Un (frs l) [] H H' s.heap s'.heap
  hok : HOk P w H' s'.heap
  new : H' e = none
  fly : ∃ B a0, Heap.FlyingW B l e cls a0 s'.heap ∧ (∀ b u, H' b = some u → ∃ o, B.get? b = some o) ∧ ∀ b o, s.heap.get? b = some o → b ∉ frs l → ∃ o', B.get? b = some o'
def CXo (P : Program) (w : World) : CXT := fun l H s E ev s' => ∃ e cls H', ev = .ref e ∧ Fly P w l H s e cls H' s' ∧ E cls none H'

theorem fly_un {fs : List Addr} {H H' : Hp} {h h' h'' B : Heap} (un : Un fs [] H H' h h') (sB : B.StaysIn h') (sB' : B.StaysIn h'') (up : h'.UpToSlots h'')
    (fr : ∀ b ∈ fs, ∃ o, h'.get? b = some o ∧ ∀ vs, o.data ≠ .fields vs) (old : ∀ b o, h.get? b = some o → b ∉ fs → ∃ o', B.get? b = some o') : Un fs [] H H' h h'' where
  keep := fun b o q n hb hx => by
    have e1 := un.keep b o q n hb hx
    obtain ⟨o', eB⟩ := old b o q hb
    have e2 := sB b o' eB
    rw [e1] at e2; cases e2
    exact sB' b o eB
  slot := fun b o q n hb hx => by
    obtain ⟨sl, e1⟩ := un.slot b o q n hb hx
    obtain ⟨o', e2, nf⟩ := fr b hb
    rw [e1] at e2; cases e2
    obtain ⟨sl', e3⟩ := up b _ e1 nf
    exact ⟨sl', e3⟩
  free := un.free
  there := fun b o q hx => by
    by_cases hb : b ∈ fs
    · obtain ⟨o', e2, nf⟩ := fr b hb
      obtain ⟨sl', e3⟩ := up b _ e2 nf
      exact ⟨_, e3⟩
    · obtain ⟨o', eB⟩ := old b o q hb
      exact ⟨o', sB' b o' eB⟩
  tups := un.tups
  frzs := un.frzs
  tbls := un.tbls
theorem fly_hok {P : Program} {w : World} {H : Hp} {h h' B : Heap} (ok : HOk P w H h) (sB : B.StaysIn h) (sB' : B.StaysIn h') (tr : ∀ b u, H b = some u → ∃ o, B.get? b = some o) : HOk P w H h' := fun a o ea =>
  (ok a o ea).stay (fun b u hb eb => by
    have tb : ∃ v, H b = some v := hb.elim (fun z => ⟨o, by rw [z]; exact ea⟩) fun z => ⟨_, z⟩
    obtain ⟨v, hv⟩ := tb
    obtain ⟨o', eB⟩ := tr b v hv
    have e2 := sB b o' eB
    rw [eb] at e2; cases e2
    exact sB' b u eB) (fun _ z => z) fun _ _ z => z

theorem un_under {fs fs' : List Addr} {L : Addr} {H H1 H2 : Hp} {h h1 h2 : Heap} (a : Un fs [] H H1 h h1) (b : Un fs' [] H1 H2 h1 h2) (sub : ∀ x ∈ fs', x = L ∨ x ∈ fs) (sup : ∀ x ∈ fs, x ∈ fs') (hL : h.objs.size ≤ L) : Un fs [] H H2 h h2 := by
  have nL : ∀ c o, h.get? c = some o → c ≠ L := fun c o q z => absurd (Heap.lt_size q) (by rw [z]; exact Nat.not_lt.mpr hL)
  have no : ∀ c o, h.get? c = some o → c ∉ fs → c ∉ fs' := fun c o q n z => (sub c z).elim (nL c o q) n
  exact ⟨fun c o q n hc hx => b.keep c o (a.keep c o q n hc hx) (a.free c o q n hx) (no c o q hc) hx,
    fun c o q n hc hx => by
      obtain ⟨sl, e1⟩ := a.slot c o q n hc hx
      obtain ⟨sl', e2⟩ := b.slot c _ e1 (a.free c o q n hx) (sup c hc) hx
      exact ⟨sl', e2⟩,
    fun c o q n hx => by
      obtain ⟨o', e1⟩ := a.there c o q hx
      exact b.free c o' e1 (a.free c o q n hx) hx,
    fun c o q hx => by
      obtain ⟨o', e1⟩ := a.there c o q hx
      exact b.there c o' e1 hx,
    fun c xs q => b.tups c xs (a.tups c xs q), fun c ob xs q => b.frzs c ob xs (a.frzs c ob xs q),
    fun c ps q => by
      obtain ⟨m1, e1⟩ := a.tbls c ps q
      obtain ⟨m2, e2⟩ := b.tbls c _ e1
      exact ⟨m1 ++ m2, by rw [e2, Array.append_assoc]⟩⟩


structure Sink (X : Cx) (E : XK) : Prop where
  made : ∀ (pins : List (Addr × Obj)) (σ : St) (H : Hp) (s : Shared) (e : Addr) (cls : Value) (args : List Value) (h' : Heap), Inv X pins σ H s → Heap.MadeExcOf s.heap h' e cls args → E cls none H → X.xe (.ref e) { s with heap := h' }
  on : Passes (CXo X.prog X.w) X E


theorem made_part {X : Cx} {pins : List (Addr × Obj)} {σ : St} {H : Hp} {s : Shared} (I : Inv X pins σ H s) :
    (PySem.W.hideAll s.heap (frs X.stack)).StaysIn s.heap ∧ s.heap.FunFrames (PySem.W.hideAll s.heap (frs X.stack)) X.stack ∧ (∀ b o, s.heap.get? b = some o → b ∉ frs X.stack → (PySem.W.hideAll s.heap (frs X.stack)).get? b = some o) ∧
      ∀ b u, H b = some u → ∃ o, (PySem.W.hideAll s.heap (frs X.stack)).get? b = some o := by
  refine ⟨fun b o q => PySem.W.of_hideAll _ q, PySem.W.funFrames_hide I.stack fun env he b hb => List.mem_filterMap.mpr ⟨env, he, hb⟩, fun b o q hb => PySem.W.hideAll_get _ q hb, fun b u q => ?_⟩
  obtain ⟨o, ho⟩ := (I.hok b u q).at_
  exact ⟨o, PySem.W.hideAll_get _ ho fun z => by rw [I.stkFree b z] at q; cases q⟩

theorem sink_def {P : Program} {w : World} {K : PySem.W.Frag} {mg : Str → Option Value} {base : Heap} {N : List Str} {qual : Str} {scope : Scope} {f : Addr} {cd : Value} {A : Around} {outer : List Env} {s : Shared} {H : Hp} {E : XK} :
    Sink (cxOf (CXo P w) P w K mg base N qual scope f cd A outer s H E) E where
  made := by
    intro pins σ H1 s1 e cls args h' I hx hE
    obtain ⟨sB, ff, inB, tr⟩ := made_part I
    show wpAny _ _ (leaving _ (.ref e)) _ _ _
    refine wpAny_leaves_madeW (base := PySem.W.hideAll s1.heap (frs (cxOf (CXo P w) P w K mg base N qual scope f cd A outer s H E).stack)) (h := s1.heap) I.ok.frames rfl sB ff hx fun h'' t x1 x2 x3 x4 => ?_
    have sB1 : (PySem.W.hideAll s1.heap (frs (cxOf (CXo P w) P w K mg base N qual scope f cd A outer s H E).stack)).StaysIn h' := fun b o q => hx.keeps b o (sB b o q)
    have un1 : Un (frs outer) [] H H1 s.heap s1.heap := I.base
    have old : ∀ b o, s.heap.get? b = some o → b ∉ frs outer → ∃ o', (PySem.W.hideAll s1.heap (frs (cxOf (CXo P w) P w K mg base N qual scope f cd A outer s H E).stack)).get? b = some o' := fun b o q hb => by
      obtain ⟨o', e1⟩ := un1.there b o q (by simp)
      refine ⟨o', inB b o' e1 fun z => ?_⟩
      rcases List.mem_cons.mp (I.stkSub b z) with z | z
      · exact absurd (Heap.lt_size q) (by rw [z]; exact Nat.lt_irrefl _)
      · exact hb z
    have fr : ∀ b ∈ frs outer, ∃ o, h'.get? b = some o ∧ ∀ vs, o.data ≠ .fields vs := fun b hb => by
      obtain ⟨_, o, ho, nf⟩ := I.funs.mem hb
      exact ⟨o, hx.keeps b o ho, nf⟩
    refine ⟨e, cls, H1, rfl, ⟨I.os, I.bare, fly_un (un1.trans (Un.kept hx.keeps)) sB1 x1.1 x4 fr old, fly_hok (I.hok.kept hx.keeps) sB1 x1.1 tr, ?_, _, _, x1, tr, old⟩, hE⟩
    cases q : H1 e with
    | none => rfl
    | some u =>
      obtain ⟨o, ho⟩ := (I.hok e u q).at_
      rw [hx.new] at ho; cases ho
  on := by
    intro pins σ H1 s1 ev s' I hcx
    obtain ⟨e, cls, H', rfl, F, hE⟩ := hcx
    obtain ⟨B, a0, fl, tr, old⟩ := F.fly
    show wpAny _ _ (leaving _ (.ref e)) _ _ _
    refine wpAny_leaves_onW I.ok.frames rfl fl fun h'' x1 x4 => ?_
    have un1 : Un (frs outer) [] H H1 s.heap s1.heap := I.base
    have sub : ∀ x ∈ frs (cxOf (CXo P w) P w K mg base N qual scope f cd A outer s H E).stack, x = s.heap.objs.size ∨ x ∈ frs outer := fun x hx => List.mem_cons.mp (I.stkSub x hx)
    have sup : ∀ x ∈ frs outer, x ∈ frs (cxOf (CXo P w) P w K mg base N qual scope f cd A outer s H E).stack := fun x hx => List.mem_cons_of_mem _ hx
    have un2 : Un (frs outer) [] H H' s.heap s'.heap := un_under un1 F.un sub sup (Nat.le_refl _)
    have old' : ∀ b o, s.heap.get? b = some o → b ∉ frs outer → ∃ o', B.get? b = some o' := fun b o q hb => by
      obtain ⟨o', e1⟩ := un1.there b o q (by simp)
      refine old b o' e1 fun z => ?_
      rcases sub b z with z | z
      · exact absurd (Heap.lt_size q) (by rw [z]; exact Nat.lt_irrefl _)
      · exact hb z
    have fr : ∀ b ∈ frs outer, ∃ o, s'.heap.get? b = some o ∧ ∀ vs, o.data ≠ .fields vs := fun b hb => by
      obtain ⟨_, o, ho, nf⟩ := fl.2.2.1.mem (sup b hb)
      exact ⟨o, ho, nf⟩
    exact ⟨e, cls, H', rfl, ⟨F.os.trans I.os, F.bare, fly_un un2 fl.1 x1.1 x4 fr old', fly_hok F.hok fl.1 x1.1 tr, F.new, B, a0, x1, tr, old'⟩, hE⟩


abbrev bmV : List Value := [.type "ValueError", .type "Exception", .type "BaseException", .type "object"]
abbrev newV : String := "ValueError.__new__"

def Exc (K : PySem.W.Frag) (C : Addr) : Prop := PySem.W.excIn K C bmV newV = true
theorem exc_obj {K : PySem.W.Frag} {h : Heap} {C : Addr} {bmB : List Value} {newId : String} (X : K.In h) (q : PySem.W.excIn K C bmB newId = true) :
    ∃ bm N nm qn bs hdct sn sub ab col dd k0 k1 k2 k3 k5 mN, h.get? C = some (excClassObj nm qn C N bs bm hdct sn sub ab col dd k0 k1 k2 k3 k5 newId) ∧ h.Ns N mN ∧ mN "__init__" = none ∧ OwnTail h bmB bm := by
  unfold PySem.W.excIn at q
  split at q
  · rename_i dd cd sl ho
    split at q
    · rename_i C' bm k0 k1 k2 k3 n k5 hm hs
      simp only [Bool.and_eq_true, beq_iff_eq, Bool.not_eq_true'] at q
      obtain ⟨⟨⟨⟨⟨rfl, rfl⟩, hdel⟩, ht⟩, hok⟩, hni⟩ := q
      obtain ⟨nm, bs, mro, ns, qn, hd, sn, sub, ab, col, del⟩ := cd
      dsimp only at hm hdel hok hni
      subst hm hdel
      have hsl : sl = #[k0, k1, k2, k3, some (.builtin n), k5] := by
        obtain ⟨l⟩ := sl
        simp only at hs
        rw [hs]
      subst hsl
      exact ⟨bm, ns, nm, qn, bs, hd, sn, sub, ab, col, dd, k0, k1, k2, k3, k5, _, X _ _ ho, .of_isNs (PySem.W.isNs_of_in X hok), PySem.W.nsMap_none_of_in X hok hni, PySem.W.tail_of_in X ht⟩
    · cases q
  · cases q
section
variable {X : Cx} {E : XK} {x : Str} {C : Addr} {e : Expr} {t : TA} {np cpos pos : Pos}
def tRaise (C : Addr) (E : XK) (t : TA) : TS := fun _ σ H => t σ H fun vs H1 => vs.length ≤ sizeLine ∧ E (.ref C) none H1
theorem ps_raise (S : Sink X E) (hq : Exc X.K C) (hc : X.calm = true) (hg : Gl X x) (hm : X.mg x = some (.ref C)) (ha : PA X [e] t) (hd : (x == ("__debug__" : Str)) = false := by decide)
    (he : starEach [e] X.env = (false, eval e X.env) :: starEach [] X.env := by rfl) (hplain : (backTo cpos (starEach [] X.env)).any (·.1) = false := by rfl) :
    PS X (.Raise (some (.Call (.Name x np) [e] [] cpos)) none pos) (tRaise C E t) := by
  intro pins s σ H D I h
  obtain ⟨tl, N, nm, q, bs, hdct, sn, sub, ab, col, dd, k0, k1, k2, k3, k5, mN, hC, hN, hni, T⟩ := exc_obj I.mod.kin hq
  refine wpAny_Raise_call_subT (C := C) (nm := nm) (q := q) (N := N) (bs := bs) (bm := tl) (hdct := hdct) (sn := sn) (sub := sub) (ab := ab) (col := col) (dd := dd) (k0 := k0) (k1 := k1) (k2 := k2) (k3 := k3) (k5 := k5)
    PySem.F.excBase_ValueError (mN := mN) (T.hasType PySem.F.excBase_ValueError.hasBase) (I.ok.hd hc) (by rw [he]; show (false || (backTo cpos (starEach [] X.env)).any (·.1)) = false; rw [hplain]; rfl) hni (ld_glob I hg hm ⟨rfl, ?_⟩ hd)
  have hA := ha cpos pins s σ H _ I h
  rw [he] at hA ⊢
  refine Calls.evalArgs_plain (thn hA fun us s2 ⟨vs, H2, I2, r, hz, hE⟩ => ⟨rfl, by rw [← r.length]; exact hz, I2.bk _ _ hC, hN.keeps I2.bk, T.keeps I2.bk, fun h' e hm' => ?_⟩)
  exact S.made pins σ H2 s2 e _ _ h' I2 hm' hE
end
end L2


set_option linter.all false
set_option maxRecDepth 100000
set_option maxHeartbeats 4000000
namespace L2
open PySem PySem.Spec PyProof.Rows


def XP (X : Cx) (pins : List (Addr × Obj)) (σ : St) (E : XK) (ev : Value) (s' : Shared) : Prop := ∃ (e : Addr) (cls : Value) (H' : Hp) (B : Heap) (a0 : Value), ev = .ref e ∧ Inv X pins σ H' s' ∧ Heap.FlyingW B X.stack e cls a0 s'.heap ∧ H' e = none ∧
  (∀ b u, H' b = some u → ∃ o, B.get? b = some o) ∧ (∀ b o, X.s₀.heap.get? b = some o → b ∉ frs X.stack → b ∉ X.ex → ∃ o', B.get? b = some o') ∧ (∀ p ∈ X.pn ++ pins, ∃ o', B.get? p.1 = some o') ∧ E cls none H'
section
variable {X : Cx} {pins : List (Addr × Obj)} {σ : St} {H : Hp} {s s' : Shared} {E : XK}
theorem Inv.notStk (I : Inv X pins σ H s) {b : Addr} (h1 : b ≠ X.env.locals) (h2 : b ∉ X.fs) : b ∉ frs X.stack := fun hb => (List.mem_cons.mp (I.stkSub b hb)).elim h1 h2
end


section
variable {X : Cx} {k : Nat} {f : Addr} {fd : FuncData} {ps : List Str} {sp : Sp} {dvs : List V} {ds : List Value} {x : Str} {p pos : Pos} {e : Expr} {es : List Expr} {t : TA}
variable {te : St → Hp → VK → XK → Prop}
end


section
variable {X : Cx} {pins : List (Addr × Obj)} {σ : St} {H : Hp} {s : Shared}
end

end L2


set_option linter.all false
set_option maxRecDepth 100000
set_option maxHeartbeats 4000000
namespace L2
open PySem PySem.Spec PyProof.Rows


def Its (x : Str) : It := ⟨fun i _ => i < x.cps.size, fun i H v H' => H' = H ∧ ∃ c, x.cps[i]? = some c ∧ v = .str ⟨#[c]⟩, fun i _ => i = x.cps.size⟩
abbrev keepsTuple : List String := ["enumerate", "zip", "dict_itemiterator", "dict_reverseitemiterator", "odict_iterator", "itertools.zip_longest", "itertools.pairwise"]
theorem turn_str {P : Program} {w : World} {K : PySem.W.Frag} {tg : Expr} {ty : String} {x : Str} {t : Tok} (it : Addr)
    (W : ∀ A : Around, A.handled = none → Walks P w A it [it] [it] x.cps.size (SignAt x) (fun i h => h.IsStrIter it ty x t i))
    (hn : keepsTuple.contains ty = false)
    (hself : ∀ (A : Around) (i : Nat) (s : Shared) (Q : Value → Shared → Prop) (E : Value → Shared → Prop), s.heap.IsStrIter it ty x t i → Q (.ref it) s → wpAny (model P w) A (pyIter (.ref it)) Q E s) :
    Turn P w K tg (Its x) [it] it (fun i h => h.IsStrIter it ty x t i) where
  mem := by simp
  obj := fun i h st b hb => by
    have eb : b = it := by simpa using hb
    subst eb
    obtain ⟨o, eo, _, d⟩ := st
    exact ⟨o, eo, fun v z => by rw [d] at z; cases z⟩
  keep := fun i h h' st k => by
    obtain ⟨o, eo, r⟩ := st
    exact ⟨o, k it (by simp) o eo, r⟩
  item := by
    intro X hP hw hK hc i pins s σ H E I hf st hg
    subst hP hw hK
    obtain ⟨f0, f1, f2, f3, f4, f5⟩ := hf it (by simp)
    refine (W X.A (I.ok.hd hc)).item i s _ _ hg st fun v h' tk hv st' kk => ?_
    obtain ⟨c, u, hcx, rfl⟩ := hv
    have I1 : Inv X pins σ H { s with heap := h', toks := tk } := I.turned (fun b o hb eo => kk b o (by simpa using hb) eo) f0 f1 f3 f4 f5
    obtain ⟨o, eo, c', d⟩ := id st'
    exact ⟨_, rfl, go_of (s := { s with heap := h', toks := tk }) eo c' d hn ⟨.str ⟨#[c]⟩, H, I1, ⟨u, rfl⟩, ⟨rfl, c, hcx, rfl⟩, st', fun b hb => (hf b hb).1⟩⟩
  done := by
    intro X hP hw hK hc i pins s σ H E I hf st hg
    subst hP hw hK
    obtain ⟨f0, f1, f2, f3, f4, f5⟩ := hf it (by simp)
    have ei : i = x.cps.size := hg
    subst ei
    exact (W X.A (I.ok.hd hc)).done s _ _ st fun h' tk kk => ⟨rfl, I.turned (fun b o hb eo => kk b o (by simpa using hb) eo) f0 f1 f3 f4 f5⟩
  self := fun A i s Q E st h => hself A i s Q E st h

section
variable {X : Cx} {tg : Expr}
def iStr (tl : TE) : TI := fun σ H R => tl σ H fun v H1 => ∃ x, v = .str x ∧ R (Its x) H1
theorem pi_str {l : Expr} {tl : TE} (hl : PE X l tl) : PI X tg l (iStr tl) := by
  intro pins s σ H R I h
  refine thn (hl pins s σ H _ I h) fun v s1 ⟨y, H1, I1, r1, q1⟩ => ?_
  obtain ⟨x, rfl, q⟩ := q1
  obtain ⟨t, rfl⟩ := r1
  have fp : ∀ b ∈ [s1.heap.objs.size], FpOk X pins H1 b := fun b hb => by
    have eb : b = s1.heap.objs.size := by simpa using hb
    subst eb
    exact I1.fpOk (Nat.le_refl _) (I1.hok.fresh (Nat.le_refl _))
  cases ha : x.cps.all (· < 128)
  · refine wpAny_pyIter_wide ha ?_
    exact ⟨s1.heap.objs.size, [s1.heap.objs.size], _, _, H1, rfl, I1.kept (t' := s1.toks) fun b o eo => Heap.get?_push_of_some _ eo,
      turn_str (ty := "str_iterator") (t := t) _ (fun A hA => Walks.strWide hA _ x t) (by decide) (fun _ _ _ _ _ st hq => wpAny_pyIter_striter_wide st hq), ⟨_, Heap.get?_push_size _ rfl, rfl, rfl⟩, fp, q⟩
  · refine wpAny_pyIter_ascii ha ?_
    exact ⟨s1.heap.objs.size, [s1.heap.objs.size], _, _, H1, rfl, I1.kept (t' := s1.toks) fun b o eo => Heap.get?_push_of_some _ eo,
      turn_str (ty := "str_ascii_iterator") (t := t) _ (fun A hA => Walks.strAscii hA _ x t) (by decide) (fun _ _ _ _ _ st hq => wpAny_pyIter_striter_ascii st hq), ⟨_, Heap.get?_push_size _ rfl, rfl, rfl⟩, fp, q⟩
end
abbrev cxComp (X : Cx) (N : List Str) (scope : Scope) (cl : List (Str × Addr)) (C : Addr) (s₀ : Shared) (H₀ : Hp) (ex : List Addr) (pn : List (Addr × Obj)) : Cx :=
  { X with N := N, s₀ := s₀, H₀ := H₀, env := compEnvC scope cl C X.env, outer := X.stack, stack := X.stack, ex := ex, fn := fun _ => false, pn := pn, xe := fun _ _ => False }

def PTs (X : Cx) (ifs : List Expr) (t : TT) : Prop :=
  ∀ (pins : List (Addr × Obj)) (s : Shared) (σ : St) (H : Hp) (Q : Bool → Hp → Prop), Inv X pins σ H s → t σ H Q →
    wpAny (model X.prog X.w) X.A (forIn ifs true fun c r => if r = true then do let ok ← isTrue c X.env (eval c X.env); pure (ForInStep.yield ok) else pure (ForInStep.yield r)) (TP X pins σ Q) X.xe s
def tYes : TT := fun _ H Q => Q true H
theorem pts_nil {X : Cx} : PTs X [] tYes := fun _ _ _ H _ I h => wpAny_tests_nil ⟨H, I, h⟩
theorem pts_one {X : Cx} {c : Expr} {t : TT} (h : PT X c t) : PTs X [c] t := fun pins s σ H Q I hw => wpAny_tests_one (h pins s σ H Q I hw)

def pick (ρ : List (Option Nat)) (σ : St) : St := ρ.map fun o => o.bind fun j => (σ[j]?).bind id

def CompOk (J : It) (g : TG) (tc : TT) (te : TE) (Q : VK) (l : Addr) (τ : St) (H1 : Hp) : Prop :=
  ∃ W : Nat → Nat → List V → St → Hp → Prop, (∃ m, W 0 m [] τ (upd H1 l (.lst []))) ∧ ∀ i m ys τ H2, W i m ys τ H2 →
    (J.stop i H2 ∧ Q (.ref l) H2) ∨ (J.go i H2 ∧ ∀ x H3, J.yld i H2 x H3 → g x τ H3 fun τ4 H4 => tc τ4 H4 fun b H5 =>
      if b = true then te τ4 H5 fun y H6 => H6 l = some (.lst ys) ∧ ys.length < sizeLine ∧ ∃ m', m' < m ∧ W (i + 1) m' (ys ++ [y]) τ4 (upd H6 l (.lst (ys ++ [y])))
      else ∃ m', m' < m ∧ W (i + 1) m' ys τ4 H5)
def tComp (ρ : List (Option Nat)) (wi : TI) (g : TG) (tc : TT) (te : TE) : TE := fun σ H Q => wi σ H fun J H1 => ∀ l, H1 l = none → CompOk J g tc te Q l (pick ρ σ) H1


theorem comp_loop {prog : Program} {w : World} {A : Around} {R : Result → Shared → Prop} {s : Shared} {elt target iter : Expr} {ifs : List Expr} {scope : Scope} {pos : Pos} {it acc : Value} {env : Env} (Iv : Nat → Shared → Prop)
    (turn : ∀ n s, Iv n s → wpAny (model prog w) A (pyNext it) (fun r s1 => match r with
      | none => R (.ok .next) s1
      | some v => wpAny (model prog w) A (letOwnedTupleGo target it v) (fun _ s1' => wpAny (model prog w) A (assign target env v) (fun _ s2 =>
          wpAny (model prog w) A (forIn ifs true fun c r => if r = true then do let ok ← isTrue c env (eval c env); pure (ForInStep.yield ok) else pure (ForInStep.yield r)) (fun ok s3 =>
            if ok = true then wpAny (model prog w) A (eval elt env) (fun x s4 =>
              wpAny (model prog w) A (call (.builtin "list.append") [acc, x]) (fun _ s5 => ∃ m, m < n ∧ Iv m s5) (fun _ _ => False) s4) (fun _ _ => False) s3
            else ∃ m, m < n ∧ Iv m s3) (fun _ _ => False) s2) (fun _ _ => False) s1') (fun _ _ => False) s1) (fun _ _ => False) s)
    (n : Nat) (h : Iv n s) : codeAny (model prog w) A (.compLoop (.ListComp elt [⟨target, iter, ifs, 0⟩] scope pos) 0 it acc env) R s := by
  refine codeAny_loop rfl Iv (fun n s hI => ?_) n h
  show wpAny _ A ((compTurn (.ListComp elt [⟨target, iter, ifs, 0⟩] scope pos) 0 it acc env).onRaise (fun x => do noteFrame x env; theTreesLotGoes x)) _ _ s
  refine wpAny_noted ?_
  rw [compTurn_list]
  have no : ∀ {P : Value → Shared → Prop} (e : Value) (s' : Shared), False → P e s' := fun _ _ z => z.elim
  refine wpAny_bind (wpAny_standAt (wpAny_bind (wpAny_mono (turn n s hI) (fun r s1 h1 => ?_) no)))
  cases r with
  | none => exact wpAny_pure h1
  | some v =>
    refine wpAny_bind (wpAny_mono h1 (fun _ s1' h1' => ?_) no)
    refine wpAny_bind (wpAny_mono h1' (fun _ s2 h2 => wpAny_bind (wpAny_mono h2 (fun ok s3 h3 => ?_) no)) no)
    cases ok with
    | false => exact wpAny_pure ⟨rfl, h3⟩
    | true => exact wpAny_bind (wpAny_bind (wpAny_mono h3 (fun x s4 h4 => wpAny_bind (wpAny_mono h4 (fun _ s5 h5 => wpAny_pure (wpAny_pure ⟨rfl, h5⟩)) no)) no))

section
variable {X : Cx} {elt tg iter : Expr} {ifs : List Expr} {scope : Scope} {cl : List (Str × Addr)} {N : List Str} {ρ : List (Option Nat)} {pos : Pos} {wi : TI} {g : TG} {tc : TT} {te : TE}


structure CompScope (X : Cx) (N : List Str) (ρ : List (Option Nat)) (scope : Scope) (cl : List (Str × Addr)) : Prop where
  clos : closureFor scope X.env = pure cl
  nocell : ∀ y ∈ scope.names, y.2 ≠ .cell
  kind : scope.kind = .function
  loc : ∀ y ∈ scope.names, y.2 = .local → scope.names.lookup y.1 = some .local
  sub : ∀ x c, cl.lookup x = some c → X.env.cells.lookup x = some c
  has : ∀ x, ((relabel scope X.env).names.lookup x = some .cell ∨ (relabel scope X.env).names.lookup x = some .free) → ∃ c, cl.lookup x = some c
  len : ρ.length = N.length
  from_ : ∀ (i j : Nat) (x : Str), N[i]? = some x → ρ[i]? = some (some j) → X.N[j]? = some x ∧ (X.env.kindOf x = some .cell ∨ X.env.kindOf x = some .free) ∧ ((relabel scope X.env).names.lookup x = some .cell ∨ (relabel scope X.env).names.lookup x = some .free)

theorem pick_get {ρ : List (Option Nat)} {σ : St} {i : Nat} {v : V} (h : (pick ρ σ)[i]? = some (some v)) : ∃ j, ρ[i]? = some (some j) ∧ σ[j]? = some (some v) := by
  unfold pick at h
  rw [List.getElem?_map] at h
  cases e : ρ[i]? with
  | none => rw [e] at h; cases h
  | some o =>
    rw [e] at h
    cases o with
    | none => cases h
    | some j =>
      refine ⟨j, rfl, ?_⟩
      simp only [Option.map_some, Option.bind_some, Option.some.injEq] at h
      cases e2 : σ[j]? with
      | none => rw [e2] at h; cases h
      | some w =>
        rw [e2] at h
        have h' : w = some v := h
        rw [h']

theorem inv_comp {pins : List (Addr × Obj)} {σ : St} {H : Hp} {s s' : Shared} {fp : List Addr} {h₁ : Heap} (S : CompScope X N ρ scope cl) (I : Inv X pins σ H s) (hf : ∀ b ∈ fp, FpOk X pins H b)
    (hlt : ∀ b ∈ fp, b < s.heap.objs.size) (hns : h₁.Ns s.heap.objs.size (fun _ => none)) (hsb : ∀ b o, s.heap.get? b = some o → h₁.get? b = some o) (es : s' = { s with heap := h₁ }) :
    Inv (cxComp X N scope cl s.heap.objs.size s H fp (X.pn ++ pins)) [] (pick ρ σ) H s' := by
  subst es
  have notStk : ∀ b, b ≠ X.env.locals → b ∉ X.fs → b ∉ frs X.stack := fun b h1 h2 hb => by
    rcases List.mem_cons.mp (I.stkSub b hb) with z | z
    · exact h1 z
    · exact h2 z
  have hC : X.env.locals ≠ s.heap.objs.size := Nat.ne_of_lt I.lt
  refine ⟨⟨I.ok.mod, S.kind, I.ok.glob, I.ok.blt, Nat.le_refl _, fun x y c h1 h2 => I.ok.inj x y c (S.sub x c h1) (S.sub y c h2), fun x hx => S.has x hx, fun x c hx _ => absurd (show false = true from hx) Bool.false_ne_true, I.ok.hd, I.ok.frames, .inl rfl,
    fun b hb => ⟨Nat.ne_of_lt (hlt b hb), fun x c h1 => (hf b hb).2.2.2.2.1 x c (S.sub x c h1)⟩, I.bs, Nat.le_trans I.ok.bsz I.sz, fun b o eo hb => ?_, fun b hb => notStk b (hf b hb).2.1 (hf b hb).2.2.1, I.stack, I.stkFree⟩,
    rfl, I.bare, Un.kept hsb, ⟨_, hns, fun i x v h1 h2 h3 => ?_⟩, fun x c h1 => ?_, I.hok.fresh (Nat.le_refl _), fun x c h1 => I.freeC x c (S.sub x c h1), fun p hp => ?_, I.hok.kept hsb, ?_⟩
  · rcases (hf b hb).2.2.2.1 with z | z
    · exact I.ok.noex b o eo z
    · exact absurd (Heap.lt_size (I.ok.bs b o eo).1) (Nat.not_lt.mpr z)
  · obtain ⟨j, hj, hv⟩ := pick_get h2
    obtain ⟨n1, n2, n3⟩ := S.from_ i j x h1 hj
    obtain ⟨m, hn, hl⟩ := I.loc
    have vis : Vis X.env.scope x := n2.elim (fun z => .inr (.inl z)) fun z => .inr (.inr z)
    obtain ⟨u, ru, lk⟩ := hl j x v n1 hv vis
    refine ⟨u, ru, .inr ⟨n3, ?_⟩⟩
    rcases lk with ⟨hk, _⟩ | ⟨_, c, hc, hcell⟩
    · rcases n2 with z | z
      · rw [z] at hk; cases hk
      · rw [z] at hk; cases hk
    · obtain ⟨c', hc'⟩ := S.has x n3
      have ec := S.sub x c' hc'
      rw [hc] at ec
      cases ec
      obtain ⟨o, ho, hd⟩ := hcell
      exact ⟨c, hc', o, hsb c o ho, hd⟩
  · obtain ⟨v, o, ho, hd⟩ := I.cell x c (S.sub x c h1)
    exact ⟨v, o, hsb c o ho, hd⟩
  · have hp' : p ∈ X.pn ++ pins := by simpa using hp
    obtain ⟨p1, p2, p3, p4, p5⟩ := I.pin p hp'
    exact ⟨hsb _ _ p1, p2, Nat.ne_of_lt (Heap.lt_size p1), notStk _ p3 p4, p5⟩
  · show (pick ρ σ).length = N.length
    unfold pick
    rw [List.length_map]
    exact S.len

theorem pe_comp (hc : X.calm = true) (S : CompScope X N ρ scope cl) (hi : PI X tg iter wi)
    (hg : ∀ C s₀ H₀ ex pn, PG (cxComp X N scope cl C s₀ H₀ ex pn) tg g) (ht : ∀ C s₀ H₀ ex pn, PTs (cxComp X N scope cl C s₀ H₀ ex pn) ifs tc) (he : ∀ C s₀ H₀ ex pn, PE (cxComp X N scope cl C s₀ H₀ ex pn) elt te)
    (hs : ∀ x, foldedSetIterable iter X.env x = pure x := by intro _; rfl) : PE X (.ListComp elt [⟨tg, iter, ifs, 0⟩] scope pos) (tComp ρ wi g tc te) := by
  intro pins s σ H Q I h
  rw [eval_ListComp]
  refine wpAny_comprehension_free (use := none) rfl hs S.clos S.kind S.loc (thn (hi pins s σ H _ I h) fun v s1 h1 => thn h1 fun itv s2 h2 => ?_)
  obtain ⟨it, fp, tn, J, H2, e, I2, T, st2, f2, q2⟩ := h2
  subst e
  obtain ⟨W, ⟨m0, w0⟩, turn⟩ := q2 _ (I2.hok.fresh (Nat.le_refl _))
  refine wpAny_newObj_type (wpAny_newFunctionEnv S.nocell (by intro y hy; simp at hy) (fun h₁ hns₁ hsb₁ => ?_) S.kind)
  dsimp only at hns₁ hsb₁ ⊢
  have I3 : Inv X pins σ (upd H2 s2.heap.objs.size (.lst [])) { s2 with heap := s2.heap.push { cls := .type "list", dict := none, data := .seq ([] : List Value).toArray } } :=
    I2.laid (t' := s2.toks) (fun b u eo => Heap.get?_push_of_some _ eo) (Nat.le_refl _) ⟨by simp, [], 0, .nil, Heap.get?_push_size _ rfl⟩
  generalize hs3 : ({ s2 with heap := s2.heap.push { cls := .type "list", dict := none, data := .seq ([] : List Value).toArray } } : Shared) = s3 at I3
  have es3 : s2.heap.push { cls := .type "list", dict := none, data := .seq ([] : List Value).toArray } = s3.heap := by rw [← hs3]
  rw [es3] at hns₁ hsb₁ ⊢
  have f3 : ∀ b ∈ fp, FpOk X pins (upd H2 s2.heap.objs.size (.lst [])) b := fun b hb => by
    obtain ⟨o, eo, _⟩ := T.obj _ _ st2 b hb
    exact ⟨by rw [upd_ne (Nat.ne_of_lt (Heap.lt_size eo))]; exact (f2 b hb).1, (f2 b hb).2⟩
  have lt3 : ∀ b ∈ fp, b < s3.heap.objs.size := fun b hb => by
    obtain ⟨o, eo, _⟩ := T.obj _ _ st2 b hb
    rw [← es3, Heap.size_push]
    exact Nat.lt_succ_of_lt (Heap.lt_size eo)
  have old : ∀ b o, s3.heap.get? b = some o → h₁.get? b = some o := fun b o eo => hsb₁.extBut b o (Nat.ne_of_lt (Heap.lt_size eo)) (Heap.get?_push_of_some _ eo)
  have Ic : Inv (cxComp X N scope cl s3.heap.objs.size s3 (upd H2 s2.heap.objs.size (.lst [])) fp (X.pn ++ pins)) [] (pick ρ σ) (upd H2 s2.heap.objs.size (.lst [])) { s2 with heap := h₁, toks := s2.toks + ([] : List (Str × Value)).length } :=
    inv_comp S I3 f3 lt3 hns₁ old (by rw [← hs3] <;> rfl)
  have stat : ∀ {pl : List (Addr × Obj)} {H' : Hp}, pl = [] → (∀ b ∈ fp, H' b = none) → ∀ b ∈ fp, FpOk (cxComp X N scope cl s3.heap.objs.size s3 (upd H2 s2.heap.objs.size (.lst [])) fp (X.pn ++ pins)) pl H' b := fun {pl H'} epl hn b hb => by
    subst epl
    refine ⟨hn b hb, Nat.ne_of_lt (lt3 b hb), fun z => ?_, .inl hb, fun x c h1 => (f2 b hb).2.2.2.2.1 x c (S.sub x c h1), fun p hp => (f2 b hb).2.2.2.2.2 p (by simpa using hp)⟩
    rcases List.mem_cons.mp (I3.stkSub b z) with z | z
    · exact (f2 b hb).2.1 z
    · exact (f2 b hb).2.2.1 z
  have st4 : tn 0 h₁ := T.keep _ _ _ st2 fun b hb o eo => old b o (by rw [← es3]; exact Heap.get?_push_of_some _ eo)
  have loop : codeAny (model X.prog X.w) X.A (.compLoop (.ListComp elt [⟨tg, iter, ifs, 0⟩] scope pos) 0 (.ref it) (.ref s2.heap.objs.size) (compEnvC scope cl s3.heap.objs.size X.env))
      (compPost (model X.prog X.w) X.A X.xe none (EP X pins σ Q) (.ref s2.heap.objs.size) s3.heap.objs.size) { s2 with heap := h₁, toks := s2.toks + ([] : List (Str × Value)).length } := by
    refine comp_loop (fun n s' => ∃ i ys τ H', Inv (cxComp X N scope cl s3.heap.objs.size s3 (upd H2 s2.heap.objs.size (.lst [])) fp (X.pn ++ pins)) [] τ H' s' ∧ tn i s'.heap ∧ (∀ b ∈ fp, H' b = none) ∧ W i n ys τ H') ?_ m0
      ⟨0, [], _, _, Ic, st4, fun b hb => (f3 b hb).1, w0⟩
    rintro n s4 ⟨i, ys, τ, H4, I4, st, fr4, w4⟩
    rcases turn i n ys τ H4 w4 with ⟨stop, qn⟩ | ⟨go, step⟩
    · refine thn (T.done (cxComp X N scope cl s3.heap.objs.size s3 (upd H2 s2.heap.objs.size (.lst [])) fp (X.pn ++ pins)) rfl rfl rfl hc i [] s4 τ H4 _ I4 (stat rfl fr4) st stop) fun r s5 ⟨hr, I5⟩ => ?_
      subst hr
      obtain ⟨m5, hn5, _⟩ := I5.loc
      refine ⟨m5, hn5, fun h' hs' => ?_⟩
      have ne : ∀ b, b < s3.heap.objs.size → b ≠ s3.heap.objs.size := fun b hb => Nat.ne_of_lt hb
      have get' : ∀ b o, b ≠ s3.heap.objs.size → s5.heap.get? b = some o → h'.get? b = some o := fun b o hb eo => (hs'.2 b hb).trans eo
      have un : Un (frs X.stack) fp (upd H2 s2.heap.objs.size (.lst [])) H4 s3.heap h' :=
        ⟨fun b o eo n1 n2 n3 => get' b o (ne b (Heap.lt_size eo)) (I5.base.keep b o eo n1 n2 n3), fun b o eo n1 n2 n3 => let ⟨sl, z⟩ := I5.base.slot b o eo n1 n2 n3; ⟨sl, get' b _ (ne b (Heap.lt_size eo)) z⟩,
          I5.base.free, fun b o eo n1 => let ⟨o', z⟩ := I5.base.there b o eo n1; ⟨o', get' b _ (ne b (Heap.lt_size eo)) z⟩, I5.base.tups, I5.base.frzs, I5.base.tbls⟩
      have hok : HOk X.prog X.w H4 h' := fun a o ea => (I5.hok a o ea).stay (fun b u hb eo => get' b u (fun z => by
        have fr : H4 s3.heap.objs.size = none := I5.free
        rcases hb with rfl | hb
        · rw [z, fr] at ea; cases ea
        · rw [z, fr] at hb; cases hb) eo) (fun _ z => z) fun _ _ z => z
      have I6 : Inv X pins σ H4 { s5 with heap := h' } := I3.call' (s' := { s5 with heap := h' }) (ch := fp) (show s5.os = s3.os from I5.os) un hok I5.bare fun b hb => (f3 b hb).2.2.2
          |> fun z => ⟨(f3 b hb).2.2.2.1, (f3 b hb).2.1, (f3 b hb).2.2.2.2.1, (f3 b hb).2.2.2.2.2⟩
      exact ⟨.ref s2.heap.objs.size, H4, I6, rfl, qn⟩
    · refine thn (T.item (cxComp X N scope cl s3.heap.objs.size s3 (upd H2 s2.heap.objs.size (.lst [])) fp (X.pn ++ pins)) rfl rfl rfl hc i [] s4 τ H4 _ I4 (stat rfl fr4) st go) fun r s5 ⟨u, hr, h5⟩ => ?_
      subst hr
      refine thn h5 fun _ s6 ⟨x, H6, I6, r6, y6, st6, fr6⟩ => ?_
      have I6' := I6.pinned (stat rfl fr6) (T.obj _ _ st6)
      have again : ∀ {s9 : Shared} {τ9 : St} {H9 : Hp} {zs : List V} {m' : Nat}, Inv (cxComp X N scope cl s3.heap.objs.size s3 (upd H2 s2.heap.objs.size (.lst [])) fp (X.pn ++ pins)) ([] ++ pinsAt fp s6.heap) τ9 H9 s9 → m' < n → W (i + 1) m' zs τ9 H9 →
          ∃ m, m < n ∧ ∃ i ys τ H', Inv (cxComp X N scope cl s3.heap.objs.size s3 (upd H2 s2.heap.objs.size (.lst [])) fp (X.pn ++ pins)) [] τ H' s9 ∧ tn i s9.heap ∧ (∀ b ∈ fp, H' b = none) ∧ W i m ys τ H' := fun {s9 τ9 H9 zs m'} I9 hm w9 => by
        refine ⟨m', hm, i + 1, zs, τ9, H9, I9.unpinned, T.keep _ _ _ st6 fun b hb o eo => (I9.pin (b, o) (List.mem_append_right _ (List.mem_append_right _ (mem_pinsAt hb eo)))).1, fun b hb => ?_, w9⟩
        obtain ⟨o, eo, d⟩ := T.obj _ _ st6 b hb
        exact (I9.pin (b, o) (List.mem_append_right _ (List.mem_append_right _ (mem_pinsAt hb eo)))).2.1
      refine thn (hg _ _ _ _ _ _ s6 τ H6 x u _ I6' r6 (step x H6 y6)) fun _ s7 ⟨τ7, H7, I7, q7⟩ => ?_
      refine thn (ht _ _ _ _ _ _ s7 τ7 H7 _ I7 q7) fun ok s8 ⟨H8, I8, q8⟩ => ?_
      cases ok with
      | false =>
        rw [if_neg Bool.false_ne_true] at q8 ⊢
        obtain ⟨m', hm, w9⟩ := q8
        exact again I8 hm w9
      | true =>
        rw [if_pos rfl] at q8 ⊢
        refine thn (he _ _ _ _ _ _ s8 τ7 H8 _ I8 q8) fun y s9 ⟨z, H9, I9, r9, hl9, hz9, m', hm, w9⟩ => ?_
        refine thn (mt_append _ s9 τ7 H9 (.ref s2.heap.objs.size) [z] (.ref s2.heap.objs.size) [y] (fun _ H' => H' = upd H9 s2.heap.objs.size (.lst (ys ++ [z]))) I9 rfl (.cons r9 .nil) ⟨_, ys, z, rfl, rfl, hl9, hz9, rfl⟩) fun _ s10 ⟨_, H10, I10, _, e10⟩ => ?_
        subst e10
        exact again I10 hm w9
  exact codeAny_compStart_list loop (T.self _ 0 _ _ _ st4 loop)
end
end L2


set_option linter.all false
set_option maxRecDepth 100000
set_option maxHeartbeats 4000000
namespace L2
open PySem PySem.Spec PyProof.Rows

theorem CompScope.plain {X : Cx} {N : List Str} {ρ : List (Option Nat)} {scope : Scope} (hk : scope.kind = .function) (hn : ∀ y ∈ scope.names, y.2 ≠ .cell ∧ y.2 ≠ .free)
    (hl : ∀ y ∈ scope.names, y.2 = .local → scope.names.lookup y.1 = some .local) (hlen : ρ.length = N.length) (hρ : ∀ o ∈ ρ, o = none) : CompScope X N ρ scope [] := by
  have hre : (relabel scope X.env).names = scope.names := by
    unfold relabel
    refine map_eq_self fun y hy => ?_
    obtain ⟨n, k⟩ := y
    have hf : (k == NameKind.free) = false := by
      have := (hn _ hy).2
      cases k <;> first | rfl | exact absurd rfl this
    show (if (k == NameKind.free && X.env.scope.kind == .function && X.env.kindOf n == some .cell) = true then (n, NameKind.cell) else (n, k)) = (n, k)
    rw [hf]
    rfl
  refine ⟨closureFor_none fun y hy => (hn y hy).2, fun y hy => (hn y hy).1, hk, hl, fun x c h => (by cases h), fun x h => ?_, hlen, fun i j x _ h => ?_⟩
  · rw [hre] at h
    rcases h with h | h
    · exact absurd rfl (hn _ (PySem.mem_of_lookup h)).1
    · exact absurd rfl (hn _ (PySem.mem_of_lookup h)).2
  · have := hρ _ (List.mem_of_getElem? h)
    cases this


theorem comp_str {x : Str} {te : TE} {Q : VK} {H : Hp} {l : Addr} {τ : St} (f : Nat → V) (hl : H l = none) (hτ : 0 < τ.length) (hz : x.cps.size ≤ sizeLine)
    (ht : ∀ (τ' : St) (c : Nat) (H' : Hp) (R : VK), τ'[0]? = some (some (.str ⟨#[c]⟩)) → c ∈ x.cps.toList → R (f c) H' → te τ' H' R) (hq : Q (.ref l) (upd H l (.lst (x.cps.toList.map f)))) :
    CompOk (Its x) (gName 0) tYes te Q l τ H := by
  refine ⟨fun i m ys τ' H2 => m = x.cps.size - i ∧ i ≤ x.cps.size ∧ ys = (x.cps.toList.take i).map f ∧ 0 < τ'.length ∧ H2 = upd H l (.lst ys), ⟨x.cps.size, by simp, Nat.zero_le _, by simp, hτ, rfl⟩, ?_⟩
  rintro i m ys τ' H2 ⟨rfl, hi, rfl, hτ', rfl⟩
  by_cases hlt : i < x.cps.size
  · refine .inr ⟨hlt, fun v H3 hy => ?_⟩
    obtain ⟨eH, c, hc, rfl⟩ := hy
    subst eH
    have hc' : x.cps.toList[i]? = some c := by simpa using hc
    show te _ _ _
    refine ht _ c _ _ ?_ (List.mem_of_getElem? hc') ?_
    · rw [List.getElem?_set_self hτ']
    · have ht1 : (x.cps.toList.take (i + 1)).map f = (x.cps.toList.take i).map f ++ [f c] := by
        rw [List.take_add_one, hc', List.map_append]; rfl
      refine ⟨upd_same, ?_, x.cps.size - (i + 1), by omega, rfl, hlt, ht1.symm, by rw [List.length_set]; exact hτ', by rw [upd_upd]⟩
      rw [List.length_map, List.length_take]
      have : x.cps.toList.length = x.cps.size := by simp
      omega
  · have ei : i = x.cps.size := by omega
    subst ei
    refine .inl ⟨rfl, ?_⟩
    have : x.cps.toList.take x.cps.size = x.cps.toList := by
      apply List.take_of_length_le
      simp
    rw [this]
    exact hq

end L2


set_option linter.all false
set_option maxRecDepth 100000
set_option maxHeartbeats 4000000
namespace L2
open PySem PySem.Spec PyProof.Rows

def closL (cs : List (Str × Addr)) : List (Str × NameKind) → List (Str × Addr) → List (Str × Addr)
  | [], acc => acc
  | y :: r, acc => closL cs r (if y.2 == .free then (y.1, (cs.lookup y.1).getD 0) :: acc else acc)
theorem closL_val (cs : List (Str × Addr)) : ∀ (names : List (Str × NameKind)) (acc : List (Str × Addr)), (∀ p ∈ acc, p.2 = (cs.lookup p.1).getD 0) → ∀ p ∈ closL cs names acc, p.2 = (cs.lookup p.1).getD 0
  | [], acc, h => h
  | y :: r, acc, h => by
    unfold closL
    refine closL_val cs r _ ?_
    split
    · intro p hp
      rcases List.mem_cons.mp hp with rfl | hp
      · rfl
      · exact h p hp
    · exact h
theorem closL_mem (cs : List (Str × Addr)) : ∀ (names : List (Str × NameKind)) (acc : List (Str × Addr)), ∀ p ∈ closL cs names acc, p ∈ acc ∨ ∃ y ∈ names, y.1 = p.1 ∧ y.2 = .free
  | [], acc, p, hp => .inl hp
  | y :: r, acc, p, hp => by
    unfold closL at hp
    rcases closL_mem cs r _ p hp with h | ⟨z, hz, h⟩
    · split at h
      · rename_i hy
        rcases List.mem_cons.mp h with rfl | h
        · refine .inr ⟨y, List.mem_cons_self, rfl, ?_⟩
          cases hk : y.2 <;> rw [hk] at hy <;> first | rfl | cases hy
        · exact .inl h
      · exact .inl h
    · exact .inr ⟨z, List.mem_cons_of_mem _ hz, h⟩
theorem closL_acc (cs : List (Str × Addr)) : ∀ (names : List (Str × NameKind)) (acc : List (Str × Addr)), ∀ p ∈ acc, p ∈ closL cs names acc
  | [], acc, p, hp => hp
  | y :: r, acc, p, hp => by
    unfold closL
    refine closL_acc cs r _ p ?_
    split
    · exact List.mem_cons_of_mem _ hp
    · exact hp
theorem closL_has (cs : List (Str × Addr)) : ∀ (names : List (Str × NameKind)) (acc : List (Str × Addr)), ∀ y ∈ names, y.2 = .free → (y.1, (cs.lookup y.1).getD 0) ∈ closL cs names acc
  | [], acc, y, hy, _ => absurd hy (by simp)
  | z :: r, acc, y, hy, hf => by
    unfold closL
    rcases List.mem_cons.mp hy with rfl | hy
    · refine closL_acc cs r _ _ ?_
      rw [if_pos (by rw [hf]; rfl)]
      exact List.mem_cons_self
    · exact closL_has cs r _ y hy hf
theorem lookup_of_mem : ∀ {l : List (Str × Addr)} {x : Str} {c : Addr}, (x, c) ∈ l → ∃ d, l.lookup x = some d
  | [], _, _, h => absurd h (by simp)
  | (n, k) :: r, x, c, h => by
    rw [List.lookup_cons]
    cases hx : x == n with
    | true => exact ⟨k, rfl⟩
    | false =>
      rcases List.mem_cons.mp h with e | h
      · cases e; simp at hx
      · exact lookup_of_mem h
theorem closureFor_of {scope : Scope} {env : Env} (h : ∀ y ∈ scope.names, y.2 = .free → ∃ c, env.cells.lookup y.1 = some c) : closureFor scope env = pure (closL env.cells scope.names []) := by
  have go : ∀ (names : List (Str × NameKind)) (acc : List (Str × Addr)), (∀ y ∈ names, y.2 = .free → ∃ c, env.cells.lookup y.1 = some c) →
      (forIn (m := Sem) names acc (fun x r => if (x.2 == NameKind.free) = true then do let c ← cellOf env x.1; pure (ForInStep.yield ((x.1, c) :: r)) else pure (ForInStep.yield r))) = pure (closL env.cells names acc) := by
    intro names
    induction names with
    | nil => intro acc _; rfl
    | cons y r ih =>
      intro acc hy
      rw [List.forIn_cons]
      unfold closL
      by_cases hf : (y.2 == NameKind.free) = true
      · have hf' : y.2 = .free := by cases hk : y.2 <;> rw [hk] at hf <;> first | rfl | cases hf
        obtain ⟨c, hc⟩ := hy y List.mem_cons_self hf'
        have e : cellOf env y.1 = pure c := by unfold cellOf; rw [hc]
        rw [if_pos hf, if_pos hf, e, pure_bind, pure_bind, hc]
        exact ih _ fun z hz => hy z (List.mem_cons_of_mem _ hz)
      · rw [if_neg hf, if_neg hf, pure_bind]
        exact ih _ fun z hz => hy z (List.mem_cons_of_mem _ hz)
  have h2 := go scope.names [] h
  simp only [closureFor]
  refine Eq.trans (congrArg (· >>= _) ?_) (by rw [pure_bind])
  exact h2
theorem lookup_relab (g : Str → NameKind → NameKind) : ∀ (l : List (Str × NameKind)) (x : Str), (l.map fun y => (y.1, g y.1 y.2)).lookup x = (l.lookup x).map (g x)
  | [], _ => rfl
  | (n, k) :: r, x => by
    rw [List.map_cons, List.lookup_cons, List.lookup_cons]
    cases hx : x == n with
    | true =>
      have e : x = n := by simpa using hx
      subst e
      rfl
    | false => exact lookup_relab g r x
theorem relabel_lookup (scope : Scope) (env : Env) (x : Str) : (relabel scope env).names.lookup x = (scope.names.lookup x).map fun k => if (k == NameKind.free && env.scope.kind == .function && env.kindOf x == some .cell) = true then .cell else k := by
  rw [← lookup_relab (fun n k => if (k == NameKind.free && env.scope.kind == .function && env.kindOf n == some .cell) = true then .cell else k)]
  unfold relabel
  congr 1
  refine List.map_congr_left fun y _ => ?_
  obtain ⟨n, k⟩ := y
  show (if (k == NameKind.free && env.scope.kind == .function && env.kindOf n == some .cell) = true then (n, NameKind.cell) else (n, k)) = _
  dsimp only
  split <;> rfl

def fromOk (N : List Str) (ρ : List (Option Nat)) (XN : List Str) (dn sn : List (Str × NameKind)) : Bool :=
  (N.zip ρ).all fun p => match p.2 with
    | none => true
    | some j => decide (XN[j]? = some p.1) && decide (dn.lookup p.1 = some .cell) && decide (sn.lookup p.1 = some .free)
theorem CompScope.closes {X : Cx} {N : List Str} {ρ : List (Option Nat)} {scope : Scope} (XN : List Str) (dn : List (Str × NameKind)) (hXN : X.N = XN) (hdn : X.env.scope.names = dn) (hk : scope.kind = .function) (hX : X.env.scope.kind = .function) (hn : ∀ y ∈ scope.names, y.2 ≠ .cell)
    (hfree : ∀ y ∈ scope.names, y.2 = .free → dn.lookup y.1 = some .cell) (hcell : ∀ x, X.env.scope.names.lookup x = some .cell → ∃ c, X.env.cells.lookup x = some c) (hl : ∀ y ∈ scope.names, y.2 = .local → scope.names.lookup y.1 = some .local) (hlen : ρ.length = N.length)
    (hfrom : fromOk N ρ XN dn scope.names = true) : CompScope X N ρ scope (closL X.env.cells scope.names []) := by
  subst hXN hdn
  have kd : ∀ x, X.env.kindOf x = X.env.scope.names.lookup x := fun _ => rfl
  refine ⟨closureFor_of fun y hy hf => hcell _ (hfree y hy hf), hn, hk, hl, fun x c h => ?_, fun x h => ?_, hlen, fun i j x h1 h2 => ?_⟩
  · have hm := PySem.mem_of_lookup h
    have hv := closL_val X.env.cells scope.names [] (fun p hp => absurd hp (by simp)) _ hm
    rcases closL_mem X.env.cells scope.names [] _ hm with z | ⟨y, hy, e1, e2⟩
    · exact absurd z (by simp)
    · obtain ⟨d, hd⟩ := hcell _ (hfree y hy e2)
      have e1' : y.1 = x := e1
      rw [e1'] at hd
      have hv' : c = (X.env.cells.lookup x).getD 0 := hv
      rw [hd] at hv'
      rw [hd, hv']; rfl
  · rw [relabel_lookup] at h
    have hfr : scope.names.lookup x = some .free := by
      cases e : scope.names.lookup x with
      | none => rw [e] at h; rcases h with h | h <;> cases h
      | some k =>
        rw [e] at h
        cases k with
        | free => rfl
        | cell => exact absurd rfl (hn _ (PySem.mem_of_lookup e))
        | _ => rcases h with h | h <;> cases h
    exact lookup_of_mem (closL_has X.env.cells scope.names [] _ (PySem.mem_of_lookup hfr) rfl)
  · unfold fromOk at hfrom
    rw [List.all_eq_true] at hfrom
    have hm : (x, some j) ∈ N.zip ρ := by
      refine List.mem_of_getElem? (i := i) ?_
      rw [List.getElem?_zip_eq_some]
      exact ⟨h1, h2⟩
    have h3 := hfrom _ hm
    simp only [Bool.and_eq_true, decide_eq_true_eq] at h3
    obtain ⟨⟨a1, a2⟩, a3⟩ := h3
    refine ⟨a1, .inl (by rw [kd]; exact a2), .inl ?_⟩
    rw [relabel_lookup, a3, kd, a2, hX]
    rfl


end L2


set_option linter.all false
set_option maxRecDepth 100000
set_option maxHeartbeats 4000000
namespace L2
open PySem PySem.Spec PyProof.Rows
section
variable {X : Cx}
theorem vals_bl : ∀ {bs : List Bool} {us : List Value} {i : Nat} {v : Value}, Vals (bs.map V.bl) us → us[i]? = some v → ∃ b, bs[i]? = some b ∧ v = .bool b := by
  intro bs us i v r e
  cases e2 : (bs.map V.bl)[i]? with
  | none =>
    have := r.none_of e2
    rw [this] at e; cases e
  | some x =>
    obtain ⟨u, hu, ru⟩ := r.get e2
    rw [hu] at e; cases e
    rw [List.getElem?_map] at e2
    cases e3 : bs[i]? with
    | none => rw [e3] at e2; cases e2
    | some b =>
      rw [e3] at e2
      have e4 : V.bl b = x := Option.some.inj e2
      subst e4
      exact ⟨b, rfl, ru⟩
theorem range_all_get (bs : List Bool) : ((List.range bs.length).all fun i => (bs[i]?).getD true) = bs.all id := by
  rw [Bool.eq_iff_iff, List.all_eq_true, List.all_eq_true]
  constructor
  · intro h b hb
    obtain ⟨i, hi, rfl⟩ := List.mem_iff_getElem.mp hb
    have := h i (List.mem_range.mpr hi)
    rw [List.getElem?_eq_getElem hi] at this
    exact this
  · intro h i hi
    have hi' := List.mem_range.mp hi
    rw [List.getElem?_eq_getElem hi']
    exact h _ (List.getElem_mem hi')
theorem call_all (hc : X.calm = true) : CallR X (.builtin "all") (fun xs H Q => ∃ (p : Addr) (bs : List Bool), xs = [.ref p] ∧ SqL X.K H p (bs.map V.bl) ∧ Q (.bl (bs.all id)) H) := by
  intro pins s σ H xs us Q I r h
  obtain ⟨p, bs, rfl, hq, q⟩ := h
  obtain ⟨u, rfl, rx⟩ := vals1 r
  cases rx
  obtain ⟨its, rv, pl, hz⟩ := I.list hq
  have hl := pl.isList
  have hlt : p < s.heap.objs.size := by obtain ⟨_, e, _⟩ := hl; exact Heap.lt_size e
  have hlen : bs.length = its.length := by have := rv.length; rwa [List.length_map] at this
  refine call_all_walk (wpAny_pyIter_list hl ?_)
  refine ⟨s.heap.objs.size, [s.heap.objs.size, p], [s.heap.objs.size], its.toArray.size, _, _, fun i => (bs[i]?).getD true, rfl, Walks.list (A := X.A.in1) (I.ok.hd hc) _ p (Nat.ne_of_lt hlt) its.toArray,
    ⟨⟨_, Heap.get?_push_size _ rfl, rfl, rfl⟩, hl.push _⟩, fun i v s' Q' E' hP hQ => ?_, fun h' tk hk => ?_⟩
  · obtain ⟨b, eb, rfl⟩ := vals_bl rv (i := i) (v := v) (by simpa using hP)
    simp only [eb, Option.getD_some] at hQ
    exact wpAny_truthy_bool hQ
  · have e : ((List.range its.toArray.size).all fun i => (bs[i]?).getD true) = bs.all id := by
      rw [List.size_toArray, ← hlen]; exact range_all_get bs
    rw [e]
    exact ⟨.bl _, H, I.kept (t' := tk) fun b o eb => hk b o (fun z => by rw [List.mem_singleton.mp z] at eb; exact Nat.lt_irrefl _ (Heap.lt_size eb)) (Heap.get?_push_of_some _ eb), rfl, q⟩

theorem sl_str : SlR X (fun x lo hi H Q => ∃ z, x = .str z ∧ z.length ≤ sizeLine ∧ Q (.str (Txt.slice z lo hi)) H) := by
  intro pins s σ H x v vl vu lo hi sl Q I rx hs pl pu h
  obtain ⟨z, rfl, hz, q⟩ := h
  obtain ⟨t, rfl⟩ := rx
  refine ⟨"str", _, F.slot_str_getitem.lookup, typeIs_str _ _ _, ?_⟩
  have fin : ∀ (t' : Tok) (k : Nat), EP X pins σ Q (.str (Txt.slice z lo hi) t') { s with toks := k } := fun t' k => ⟨.str _, H, I.tok _, ⟨_, rfl⟩, q⟩
  obtain ⟨o, ho, hc, hd⟩ := hs
  cases pl with
  | none =>
    cases pu with
    | none => exact wpAny_getItem_str_slice (l := none) (u := none) (st := none) ⟨o, ho, hc, hd⟩ rfl (post_val_or_str ⟨Nat.le_trans (Txt.slice_le z _ _) hz, fin⟩)
    | int j uj => exact wpAny_getItem_str_slice (l := none) (u := some (j, uj)) (st := none) ⟨o, ho, hc, hd⟩ rfl (post_val_or_str ⟨Nat.le_trans (Txt.slice_le z _ _) hz, fin⟩)
  | int i ui =>
    cases pu with
    | none => exact wpAny_getItem_str_slice (l := some (i, ui)) (u := none) (st := none) ⟨o, ho, hc, hd⟩ rfl (post_val_or_str ⟨Nat.le_trans (Txt.slice_le z _ _) hz, fin⟩)
    | int j uj => exact wpAny_getItem_str_slice (l := some (i, ui)) (u := some (j, uj)) (st := none) ⟨o, ho, hc, hd⟩ rfl (post_val_or_str ⟨Nat.le_trans (Txt.slice_le z _ _) hz, fin⟩)

theorem op_le_str : OpR X (compareOp .LtE) (fun x y H Q => ∃ i j, x = .str i ∧ y = .str j ∧ Q (.bl (!decide (j.cps.toList < i.cps.toList))) H) := by
  intro pins s σ H x y v u Q I rx ry h
  obtain ⟨i, j, rfl, rfl, q⟩ := h
  obtain ⟨t, rfl⟩ := rx
  obtain ⟨t', rfl⟩ := ry
  exact PySem.P.le_str (fin_bl I q rfl)


def clsV : V → Option Value
  | .ty n => some (.type n)
  | .ref a => some (.ref a)
  | _ => none
theorem clsV_rel {c : V} {u w : Value} (h : clsV c = some u) (r : RelV c w) : w = u := by
  cases c with
  | ty n => cases h; exact r
  | ref a => cases h; exact r
  | _ => cases h
theorem call_isi : CallR X (.builtin "isinstance") (fun xs H Q => ∃ x c t u b, xs = [x, c] ∧ TyOf X.K H x t ∧ clsV c = some u ∧ PySem.W.kitOne X.K t u = some b ∧ Q (.bl b) H) := by
  intro pins s σ H xs us Q I r h
  obtain ⟨x, c, t, u, b, rfl, ty, rc, e, q⟩ := h
  obtain ⟨v, w, rfl, rv, rw'⟩ := vals2 r
  have eu : w = u := clsV_rel rc rw'
  subst eu
  exact isinst_ok I rv ty e fun tk => ⟨.bl b, H, I.tok tk, rfl, q⟩
end



def plainH : HO → Bool
  | .dT _ => false
  | .frz _ (.dT _) => true
  | .frz _ u => plainH u
  | _ => true
theorem ObjOk.less {P : Program} {w : World} {H H' : Hp} {h h' : Heap} {a : Addr} {o : HO} (hp : plainH o = true) (x : ObjOk P w H' h' a o) (y : ObjOk P w H h a o) : ObjOk P w H h' a o := by
  induction o with
  | dT kvs => cases hp
  | ins C dx fs => exact ⟨y.1, x.2⟩
  | frz ob u ih =>
    cases u with
    | dT kvs =>
      obtain ⟨z1, z2, xs, z3, o, es, ep, z4, z5⟩ := y.2
      have e : o = ob := by
        have := y.1
        rw [z4] at this
        exact Option.some.inj this
      subst e
      exact ⟨x.1, z1, z2, xs, z3, o, es, ep, x.1, z5⟩
    | _ => exact ⟨x.1, ih hp x.2 y.2⟩
  | lst xs => exact x
  | tup xs => exact x
  | dK kvs => exact x
  | set S n => exact x
  | own z => exact x
  | xd fs => exact x
  | rng lo hi => exact x
  | tbl ps => exact x
  | met f z => exact x
  | ext φ => exact x
section
variable {X : Cx} {pins : List (Addr × Obj)} {σ : St} {H H' : Hp} {s s' : Shared}
theorem Inv.less (hp : ∀ a o, H a = some o → plainH o = true) (I : Inv X pins σ H s) (I' : Inv X pins σ H' s') (sm : Same H H') : Inv X pins σ H s' :=
  ⟨I.ok, I'.os, I'.bare, ⟨I'.base.keep, I'.base.slot, I.base.free, I'.base.there, I.base.tups, I.base.frzs, I.base.tbls⟩, I'.loc, I'.cell, I.free, I.freeC, fun p hpp => ⟨(I'.pin p hpp).1, (I.pin p hpp).2⟩,
    fun a o ea => (I'.hok a o (sm a o ea)).less (hp a o ea) (I.hok a o ea), I.len⟩
def Plain (H : Hp) : Prop := ∀ a o, H a = some o → plainH o = true
theorem Plain.upd {H : Hp} {a : Addr} {o : HO} (h : Plain H) (ho : plainH o = true) : Plain (upd H a o) := fun b u e => by
  by_cases hb : b = a
  · subst hb; rw [upd_same] at e; cases e; exact ho
  · rw [upd_ne hb] at e; exact h b u e

def tPure (t : TE) : TE := fun σ H Q => Plain H ∧ t σ H fun v H' => Same H H' ∧ Q v H
theorem pe_pure {e : Expr} {t : TE} (h : PE X e t) : PE X e (tPure t) := by
  intro pins s σ H Q I ⟨hp, hw⟩
  exact thn (h pins s σ H _ I hw) fun v s1 ⟨x, H1, I1, r1, sm, q⟩ => ⟨x, H, I.less hp I1 sm, r1, q⟩
end
end L2


set_option linter.all false
set_option maxRecDepth 100000
set_option maxHeartbeats 4000000
namespace L2
open PySem PySem.Spec PyProof.Rows

structure ExcAt (K : PySem.W.Frag) (C : Addr) : Prop where
  ga : PySem.W.findIn K (.ref C) "__getattribute__" = some (some (.builtin "BaseException.__getattribute__"))
  gt : PySem.W.findIn K (.ref C) "__getattr__" = some none
  cl : PySem.W.findIn K (.ref C) "__class__" = some (some (.builtin "object.__class__"))
  mb : PySem.W.mroIn K C (.type "BaseException") = some true
  mo : PySem.W.mroIn K C (.type "object") = some true
  gs : PySem.W.specialIn K (.builtin "object.__class__") "__get__" = some (some (.builtin "getset_descriptor.__get__"))
  tk : PySem.W.takesIn K (.builtin "object.__class__") = some true
section
variable {prog : Program} {w : World} {A : Around} {E : Value → Shared → Prop} {s : Shared} {K : PySem.W.Frag} {e C : Addr}
end
section
variable {X : Cx}

end
end L2


set_option linter.all false
set_option maxRecDepth 100000
set_option maxHeartbeats 4000000
namespace L2
open PySem PySem.Spec PyProof.Rows
section
variable {X : Cx} (K : PySem.W.Frag) (hK : X.K = K)
include hK
theorem ix_listK : IxR X (rIxL K) := by subst hK; exact ix_list
theorem ix_tupK : IxR X (rIxT K) := by subst hK; exact ix_tup
theorem sl_listK : SlR X (rSlL K) := by subst hK; exact sl_list
theorem call_len_seqK : CallR X (.builtin "len") (fun xs H Q => ∃ p ys, xs = [.ref p] ∧ (SqL K H p ys ∨ SqT K H p ys) ∧ Q (.int ys.length) H) := by subst hK; exact call_len_seq
theorem call_list_ofK : CallR X (.type "list") (fun xs H Q => ∃ p ys, xs = [.ref p] ∧ (SqL K H p ys ∨ SqT K H p ys) ∧ ∀ l, H l = none → Q (.ref l) (upd H l (.lst ys))) := by subst hK; exact call_list_of
theorem call_tuple_ofK : CallR X (.type "tuple") (fun xs H Q => ∃ p ys, xs = [.ref p] ∧ ((SqL K H p ys ∧ ∀ l, H l = none → Q (.ref l) (upd H l (.tup ys))) ∨ (SqT K H p ys ∧ Q (.ref p) H))) := by subst hK; exact call_tuple_of
theorem call_allK (hc : X.calm = true) : CallR X (.builtin "all") (fun xs H Q => ∃ (p : Addr) (bs : List Bool), xs = [.ref p] ∧ SqL K H p (bs.map V.bl) ∧ Q (.bl (bs.all id)) H) := by subst hK; exact call_all hc
theorem call_isiK : CallR X (.builtin "isinstance") (fun xs H Q => ∃ x c t u b, xs = [x, c] ∧ TyOf K H x t ∧ clsV c = some u ∧ PySem.W.kitOne K t u = some b ∧ Q (.bl b) H) := by subst hK; exact call_isi
theorem pi_listK {tg l : Expr} {tl : TE} (hl : PE X l tl) : PI X tg l (iList K tl) := by subst hK; exact pi_list hl
theorem pi_tupK {tg l : Expr} {tl : TE} (hl : PE X l tl) : PI X tg l (iTup K tl) := by subst hK; exact pi_tup hl
theorem pt_truthK {a : Expr} {ta : TE} (ha : PE X a ta) (he : ∀ whole, isTrue a X.env whole = (do let v ← whole; standAt a.pos; holding [v] (truthy v))) :
    PT X a (fun σ H Q => ta σ H fun x H' => ∃ k, TruV K x H' k ∧ Q k H') := by subst hK; exact pt_truth ha he
theorem pg_tupK {es : List Expr} {k : Nat} {t : TGs} {n : Nat} {pos : Pos} (hc : X.calm = true) (h : PGs X es t)
    (hn : (assignEach es X.env).length = n := by rfl) (hst : (assignEach es X.env).findIdx? (·.1) = none := by rfl) : PG X (.Tuple es k pos) (gTup K n t) := by subst hK; exact pg_tup hc h hn hst
variable {o e : Expr} {es : List Expr} {to : TE} {t : TA} {name : Str} {apos cpos : Pos} {T id : String} {r : V → List V → Hp → VK → Prop}
theorem pe_bm0K (pa : PlainAttrs T) (slot : Slot T name id) (hty : typeOf (.builtin id) = pure (.type "method_descriptor")) (hm : MtR X id r) (ho : PE X o to)
    (hbase : attributeBase o name X.env (eval o X.env) = eval o X.env := by rfl) (hline : (apos.endLine == cpos.line) = true := by rfl) : PE X (.Call (.Attribute o name apos) [] [] cpos) (tBM0 K T r to) := by
  subst hK; exact pe_bm0 pa slot hty hm ho hbase hline
theorem pe_bmK (pa : PlainAttrs T) (slot : Slot T name id) (hty : typeOf (.builtin id) = pure (.type "method_descriptor")) (hm : MtR X id r) (ho : PE X o to) (ha : PA X (e :: es) t)
    (hbase : attributeBase o name X.env (eval o X.env) = eval o X.env := by rfl)
    (hfew : ((backTo cpos (starEach (e :: es) X.env)).all (fun x => !x.1) && (backToKw cpos (keywordEach [] X.env)).all (fun x => x.1.isSome)
      && decide ((e :: es).length + ([] : List Keyword).length + (if ([] : List Keyword).isEmpty then 0 else 1) < 30)) = true := by rfl)
    (hline : (apos.endLine == cpos.line) = true := by rfl) (hs : starEach (e :: es) X.env = (false, eval e X.env) :: starEach es X.env := by rfl) (hplain : (backTo cpos (starEach es X.env)).any (·.1) = false := by rfl) :
    PE X (.Call (.Attribute o name apos) (e :: es) [] cpos) (tBM K T r to t) := by
  subst hK; exact pe_bm pa slot hty hm ho ha hbase hfew hline hs hplain
end
end L2


set_option linter.all false
set_option maxRecDepth 100000
set_option maxHeartbeats 4000000
namespace L2
open PySem PySem.Spec PyProof.Rows
section
variable {P : Program} {w : World} {K : PySem.W.Frag} {mg : Str → Option Value} {base : Heap}

theorem Fun.okX {x qual : Str} {st : Stmt} {f : Addr} {fd : FuncData} {N ps : List Str} {k : Nat} {sp : Sp} (F : Fun K x qual st f fd) (S : FnScope N ps (defScope st)) (len : ∀ vs H Q E, sp vs H Q E → vs.length = ps.length)
    (hbody : ∀ (cdv : Value) (A : Around) (outer : List Env) (s : Shared) (H : Hp) (vs : List V) (Q : VK) (E : XK), Room k (A.deeper (envOfC qual (defScope st) s.heap.objs.size f cdv)) → sp vs H Q E →
      ∃ t, PSs (cxOf (CXo P w) P w K mg base N qual (defScope st) f cdv A outer s H E) (defBody st) t ∧ t { nx := fun _ H' => Q .non H', rt := Q } (start N vs) H) : FnOk P w K mg base (CXo P w) (k + 1) f fd ps sp := by
  obtain ⟨oc, od, kV, doc, pm, an, cdv, ct, osl, rfl, lk, hcd⟩ := F.ex
  exact fn_of lk hcd S len fun A outer s H vs Q E hr hsp => hbody cdv A outer s H vs Q E hr hsp
end

structure Used (P : Program) (w : World) (K : PySem.W.Frag) (mg : Str → Option Value) (CX : CXT) (k : Nat) (x : Str) (ps : List Str) (sp : Sp) : Prop where
  ok : ∃ f fd, (∀ base, FnOk P w K mg base CX k f fd ps sp) ∧ mg x = some (.ref f) ∧ PySem.W.keepIn K (.ref f) = true ∧ Binds K fd ps []

theorem passX {X : Cx} : Passes (CXo X.prog X.w) X E0 := fun _ _ _ _ _ _ _ ⟨_, _, _, _, _, h⟩ => h.elim
theorem Same.upd {H : Hp} {p : Addr} {o : HO} (h : H p = none) : Same H (upd H p o) := fun b u e => by rw [upd_ne (ne_of_none e h)]; exact e

theorem Same.put {H H' : Hp} {p : Addr} {o : HO} (s : Same H H') (h : H p = none) : Same H (L2.upd H' p o) := fun b u e => by rw [upd_ne (ne_of_none e h)]; exact s b u e
def del (H : Hp) (l : Addr) : Hp := fun b => if b = l then none else H b
theorem del_ne {H : Hp} {l b : Addr} (h : b ≠ l) : del H l b = H b := if_neg h
theorem del_self {H : Hp} {l : Addr} : del H l l = none := if_pos rfl
theorem del_same (H : Hp) (l : Addr) : Same (del H l) H := fun b o e => by
  unfold del at e
  split at e
  · cases e
  · exact e
theorem Same.del {H H' : Hp} (s : Same H H') (l : Addr) : Same (L2.del H l) (L2.del H' l) := fun b o e => by
  unfold L2.del at e ⊢
  split at e
  · cases e
  · rw [if_neg (by assumption)]; exact s b o e
theorem Same.to_del {H H' : Hp} {l : Addr} (s : Same H H') (h : H l = none) : Same H (L2.del H' l) := fun b o e => by
  rw [del_ne (ne_of_none e h)]
  exact s b o e
theorem del_upd {H : Hp} {l : Addr} {o : HO} : L2.del (L2.upd H l o) l = L2.del H l := by
  funext b
  unfold L2.del L2.upd
  split <;> rfl

theorem comp_by {J : It} {g : TG} {tc : TT} {te : TE} {Q : VK} {l : Addr} {τ : St} {H1 : Hp} (n : Nat) (W : Nat → List V → St → Hp → Prop) (h0 : W 0 [] τ (upd H1 l (.lst [])))
    (hgo : ∀ i ys τ H (N : List V → St → Hp → Prop), i < n → W i ys τ H → (∀ ys τ H, W (i + 1) ys τ H → N ys τ H) → J.go i H ∧ ∀ x H3, J.yld i H x H3 → g x τ H3 fun τ4 H4 => tc τ4 H4 fun b H5 =>
      if b = true then te τ4 H5 fun y H6 => H6 l = some (.lst ys) ∧ ys.length < sizeLine ∧ N (ys ++ [y]) τ4 (upd H6 l (.lst (ys ++ [y]))) else N ys τ4 H5)
    (hst : ∀ ys τ H, W n ys τ H → J.stop n H ∧ Q (.ref l) H) : CompOk J g tc te Q l τ H1 := by
  refine ⟨fun i m ys τ H => m = n - i ∧ i ≤ n ∧ W i ys τ H, ⟨n, by simp, Nat.zero_le _, h0⟩, ?_⟩
  rintro i m ys τ H ⟨rfl, hi, w⟩
  by_cases hlt : i < n
  · exact .inr (hgo i ys τ H (fun ys τ H => ∃ m', m' < n - i ∧ m' = n - (i + 1) ∧ i + 1 ≤ n ∧ W (i + 1) ys τ H) hlt w fun ys τ H h => ⟨n - (i + 1), by omega, rfl, hlt, h⟩)
  · have ei : i = n := by omega
    subst ei
    exact .inl (hst ys τ H w)

def GivesN (J : It) (n : Nat) (H : Hp) (item : Nat → V → Prop) : Prop := ∀ i H', Same H H' → (i < n → J.go i H' ∧ ∀ x H3, J.yld i H' x H3 → H3 = H' ∧ item i x) ∧ J.stop n H'
theorem gives_list {K : PySem.W.Frag} {a : Addr} {xs : List V} {H : Hp} (h : SqL K H a xs) : GivesN (Itl K a) xs.length H fun i x => xs[i]? = some x := fun i H' s => by
  have h' := s.seq h
  exact ⟨fun hi => ⟨⟨xs, xs[i], h', by simp [hi]⟩, fun x H3 y => ⟨y.1, y.2 xs h'⟩⟩, ⟨xs, h', Nat.le_refl _⟩⟩
theorem Same.seqT {K : PySem.W.Frag} {H H' : Hp} {a : Addr} {xs : List V} (e : Same H H') (h : SqT K H a xs) : SqT K H' a xs := by
  rcases h with (h | ⟨o, h⟩) | h
  · exact .inl (.inl (e _ _ h))
  · exact .inl (.inr ⟨o, e _ _ h⟩)
  · exact .inr h
theorem gives_tup {K : PySem.W.Frag} {a : Addr} {xs : List V} {H : Hp} (h : SqT K H a xs) : GivesN (Itt K a) xs.length H fun i x => xs[i]? = some x := fun i H' s => by
  have h' := s.seqT h
  exact ⟨fun hi => ⟨⟨xs, xs[i], h', by simp [hi]⟩, fun x H3 y => ⟨y.1, y.2 xs h'⟩⟩, ⟨xs, h', Nat.le_refl _⟩⟩
theorem gives_range {lo : Int} {n : Nat} {H : Hp} : GivesN (Itr lo n) n H fun i x => x = .int (lo + i) := fun i H' s =>
  ⟨fun hi => ⟨hi, fun x H3 y => y⟩, Nat.le_refl _⟩
theorem comp_items {J : It} {n : Nat} {item : Nat → V → Prop} {te : TE} {Q : VK} {H : Hp} {l : Addr} {τ : St} (j0 : Nat) (Py : Nat → V → Hp → Prop) (hJ : GivesN J n H item) (mono : ∀ k y H H', Same H H' → Py k y H → Py k y H') (hp : Plain H)
    (hl : H l = none) (hτ : j0 < τ.length) (hz : n ≤ sizeLine) (keep : St → Prop) (hk0 : keep τ) (hks : ∀ τ' v, keep τ' → keep (τ'.set j0 v))
    (ht : ∀ (τ' : St) (k : Nat) (x : V) (H' : Hp) (R : VK), keep τ' → τ'[j0]? = some (some x) → item k x → k < n → Same H H' → Plain H' → H' l ≠ none → (∀ y H6, Same H' H6 → Plain H6 → Py k y (del H6 l) → R y H6) → te τ' H' R)
    (hq : ∀ ys H', ys.length = n → (∀ k y, ys[k]? = some y → Py k y (del H' l)) → Same H H' → Plain H' → H' l = some (.lst ys) → Q (.ref l) H') : CompOk J (gName j0) tYes te Q l τ H := by
  refine ⟨fun i m ys τ' H2 => m = n - i ∧ i ≤ n ∧ ys.length = i ∧ (∀ k y, ys[k]? = some y → Py k y (del H2 l)) ∧ j0 < τ'.length ∧ keep τ' ∧ Same H H2 ∧ Plain H2 ∧ H2 l = some (.lst ys),
    ⟨n, by simp, Nat.zero_le _, rfl, fun k y e => by simp at e, hτ, hk0, Same.upd hl, hp.upd rfl, upd_same⟩, ?_⟩
  rintro i m ys τ' H2 ⟨rfl, hi, hy, hP, hτ', hk', hs, hpl, hll⟩
  obtain ⟨hgo, hst⟩ := hJ i H2 hs
  by_cases hlt : i < n
  · obtain ⟨h1, h2⟩ := hgo hlt
    refine .inr ⟨h1, fun x H3 hyl => ?_⟩
    obtain ⟨eH, hit⟩ := h2 x H3 hyl
    subst eH
    show te _ _ _
    refine ht _ i x _ _ (hks _ _ hk') ?_ hit hlt hs hpl (by rw [hll]; intro z; cases z) fun y H6 s6 p6 py => ?_
    · rw [List.getElem?_set_self hτ']
    · have hl6 : H6 l = some (.lst ys) := s6 _ _ hll
      refine ⟨hl6, by omega, n - (i + 1), by omega, rfl, hlt, by simp [hy], fun k z e => ?_, by rw [List.length_set]; exact hτ', hks _ _ hk', (hs.trans s6).put hl, p6.upd rfl, upd_same⟩
      rw [del_upd]
      by_cases hkl : k < ys.length
      · rw [List.getElem?_append_left hkl] at e
        exact mono k z _ _ (s6.del l) (hP k z e)
      · rw [List.getElem?_append_right (by omega)] at e
        have hk0 : k - ys.length = 0 := by
          cases hh : k - ys.length with
          | zero => rfl
          | succ j => rw [hh] at e; simp at e
        rw [hk0] at e
        have e2 : y = z := by simpa using e
        have e3 : k = i := by omega
        subst e2 e3
        exact py
  · have ei : i = n := by omega
    subst ei
    exact .inl ⟨hst, hq ys H2 hy hP hs hpl hll⟩

end L2


set_option linter.all false
set_option maxRecDepth 100000
set_option maxHeartbeats 4000000
namespace L2
open PySem PySem.Spec PyProof.Rows
inductive D where
  | non | bl (b : Bool) | int (i : Int) | str (x : Str) | lst (xs : List D) | tup (xs : List D) | oth
mutual
def eqD : D → D → Bool
  | .non, .non => true
  | .bl a, .bl b => a == b
  | .bl a, .int b => (if a then (1 : Int) else 0) == b
  | .int a, .bl b => a == (if b then (1 : Int) else 0)
  | .int a, .int b => a == b
  | .str a, .str b => a == b
  | .lst xs, .lst ys => eqDs xs ys
  | .tup xs, .tup ys => eqDs xs ys
  | _, _ => false
def eqDs : List D → List D → Bool
  | [], [] => true
  | x :: xs, y :: ys => eqD x y && eqDs xs ys
  | _, _ => false
end
mutual
def D.dep : D → Nat
  | .lst xs => depS xs + 1
  | .tup xs => depS xs + 1
  | _ => 0
def depS : List D → Nat
  | [] => 0
  | x :: xs => max x.dep (depS xs)
end
mutual
def Den (H : Hp) : V → D → Prop
  | v, .non => v = .non
  | v, .bl b => v = .bl b
  | v, .int i => v = .int i
  | v, .str x => v = .str x
  | v, .lst ds => ∃ a xs, v = .ref a ∧ Rd H a (.lst xs) ∧ Dens H xs ds
  | v, .tup ds => ∃ a xs, v = .ref a ∧ H a = some (.tup xs) ∧ Dens H xs ds
  | v, .oth => ∃ a kvs, v = .ref a ∧ H a = some (.dK kvs)
def Dens (H : Hp) : List V → List D → Prop
  | [], [] => True
  | v :: vs, d :: ds => Den H v d ∧ Dens H vs ds
  | _, _ => False
end
mutual

def D.ok : D → Bool
  | .lst xs => okS xs
  | .tup xs => okS xs
  | .oth => false
  | _ => true
def okS : List D → Bool
  | [] => true
  | x :: xs => x.ok && okS xs
end
theorem okS_mem : ∀ {xs : List D} {d : D}, okS xs = true → d ∈ xs → d.ok = true
  | x :: xs, d, h, hd => by
    unfold okS at h
    rw [Bool.and_eq_true] at h
    rcases List.mem_cons.mp hd with rfl | hd
    · exact h.1
    · exact okS_mem h.2 hd
theorem okS_of : ∀ {xs : List D}, (∀ d ∈ xs, d.ok = true) → okS xs = true
  | [], _ => by unfold okS; rfl
  | x :: xs, h => by unfold okS; rw [h x List.mem_cons_self, okS_of fun d hd => h d (List.mem_cons_of_mem _ hd)]; rfl
theorem depS_le : ∀ {xs : List D} {d : D}, d ∈ xs → d.dep ≤ depS xs
  | x :: xs, d, h => by
    unfold depS
    rcases List.mem_cons.mp h with rfl | h
    · exact Nat.le_max_left _ _
    · exact Nat.le_trans (depS_le h) (Nat.le_max_right _ _)
mutual
theorem eqD_refl : ∀ d : D, d.ok = true → eqD d d = true
  | .non, _ => by unfold eqD; rfl
  | .bl b, _ => by unfold eqD; exact beq_self_eq_true b
  | .int i, _ => by unfold eqD; exact beq_self_eq_true i
  | .str x, _ => by unfold eqD; exact beq_self_eq_true x
  | .lst xs, h => by unfold eqD; unfold D.ok at h; exact eqDs_refl xs h
  | .tup xs, h => by unfold eqD; unfold D.ok at h; exact eqDs_refl xs h
  | .oth, h => by unfold D.ok at h; cases h
theorem eqDs_refl : ∀ ds : List D, okS ds = true → eqDs ds ds = true
  | [], _ => by unfold eqDs; rfl
  | d :: ds, h => by
    unfold okS at h
    rw [Bool.and_eq_true] at h
    unfold eqDs
    rw [eqD_refl d h.1, eqDs_refl ds h.2]
    rfl
end
theorem eqD_lst (xs ys : List D) : eqD (.lst xs) (.lst ys) = eqDs xs ys := by unfold eqD; rfl
theorem eqD_tup (xs ys : List D) : eqD (.tup xs) (.tup ys) = eqDs xs ys := by unfold eqD; rfl
theorem eqDs_len : ∀ {xs ys : List D}, xs.length ≠ ys.length → eqDs xs ys = false
  | [], [], h => absurd rfl h
  | [], _ :: _, _ => by unfold eqDs; rfl
  | _ :: _, [], _ => by unfold eqDs; rfl
  | x :: xs, y :: ys, h => by
    unfold eqDs
    rw [eqDs_len (xs := xs) (ys := ys) fun e => h (by rw [List.length_cons, List.length_cons, e]), Bool.and_false]
theorem eqDs_all : ∀ {xs ys : List D}, xs.length = ys.length → eqDs xs ys = (List.range xs.length).all fun j => eqD (xs.getD j .non) (ys.getD j .non)
  | [], [], _ => by unfold eqDs; rfl
  | [], _ :: _, h => by cases h
  | _ :: _, [], h => by cases h
  | x :: xs, y :: ys, h => by
    unfold eqDs
    rw [eqDs_all (xs := xs) (ys := ys) (Nat.succ.inj h), List.length_cons, List.range_succ_eq_map, List.all_cons, List.all_map]
    rfl
section
variable {H H' : Hp}
theorem Dens.len : ∀ {xs : List V} {ds : List D}, Dens H xs ds → xs.length = ds.length
  | [], [], _ => rfl
  | [], _ :: _, h => by unfold Dens at h; exact h.elim
  | _ :: _, [], h => by unfold Dens at h; exact h.elim
  | v :: vs, d :: ds, h => by
    unfold Dens at h
    rw [List.length_cons, List.length_cons, Dens.len h.2]
theorem Dens.get : ∀ {xs : List V} {ds : List D} {i : Nat} {v : V}, Dens H xs ds → xs[i]? = some v → ∃ d, ds[i]? = some d ∧ Den H v d
  | [], _, i, v, _, e => by simp at e
  | _ :: _, [], _, _, h, _ => by unfold Dens at h; exact h.elim
  | x :: xs, d :: ds, 0, v, h, e => by
    unfold Dens at h
    simp at e
    subst e
    exact ⟨d, rfl, h.1⟩
  | x :: xs, d :: ds, i + 1, v, h, e => by
    unfold Dens at h
    exact Dens.get (i := i) h.2 (by simpa using e)
theorem Dens.getD : ∀ {xs : List V} {ds : List D} {i : Nat} {d : D}, Dens H xs ds → ds[i]? = some d → ∃ v, xs[i]? = some v ∧ Den H v d
  | _, [], i, v, _, e => by simp at e
  | [], _ :: _, _, _, h, _ => by unfold Dens at h; exact h.elim
  | x :: xs, d :: ds, 0, v, h, e => by
    unfold Dens at h
    simp at e
    subst e
    exact ⟨x, rfl, h.1⟩
  | x :: xs, d :: ds, i + 1, v, h, e => by
    unfold Dens at h
    exact Dens.getD (i := i) h.2 (by simpa using e)
theorem Dens.nil : Dens H [] [] := by unfold Dens; trivial
theorem Dens.cons {v : V} {vs : List V} {d : D} {ds : List D} (h : Den H v d) (hs : Dens H vs ds) : Dens H (v :: vs) (d :: ds) := by unfold Dens; exact ⟨h, hs⟩
theorem Dens.append : ∀ {xs ys : List V} {ds es : List D}, Dens H xs ds → Dens H ys es → Dens H (xs ++ ys) (ds ++ es)
  | [], _, [], _, _, h => h
  | [], _, _ :: _, _, h, _ => by unfold Dens at h; exact h.elim
  | _ :: _, _, [], _, h, _ => by unfold Dens at h; exact h.elim
  | x :: xs, ys, d :: ds, es, h, h2 => by
    unfold Dens at h
    exact .cons h.1 (Dens.append h.2 h2)
theorem Dens.of_all : ∀ {xs : List V} {ds : List D}, xs.length = ds.length → (∀ (i : Nat) (v : V) (d : D), xs[i]? = some v → ds[i]? = some d → Den H v d) → Dens H xs ds
  | [], [], _, _ => .nil
  | [], _ :: _, h, _ => by cases h
  | _ :: _, [], h, _ => by cases h
  | x :: xs, d :: ds, h, k => .cons (k 0 x d rfl rfl) (Dens.of_all (Nat.succ.inj h) fun i v e h1 h2 => k (i + 1) v e (by simpa using h1) (by simpa using h2))
theorem Dens.take {xs : List V} {ds : List D} (h : Dens H xs ds) (n : Nat) : Dens H (xs.take n) (ds.take n) := by
  have hl := h.len
  refine .of_all (by rw [List.length_take, List.length_take, hl]) fun i v d h1 h2 => ?_
  rw [List.getElem?_take] at h1 h2
  split at h1
  · rw [if_pos (by assumption)] at h2
    obtain ⟨e, he, hd⟩ := h.get h1
    rw [h2] at he; cases he
    exact hd
  · cases h1
theorem Dens.drop {xs : List V} {ds : List D} (h : Dens H xs ds) (n : Nat) : Dens H (xs.drop n) (ds.drop n) := by
  have hl := h.len
  refine .of_all (by rw [List.length_drop, List.length_drop, hl]) fun i v d h1 h2 => ?_
  rw [List.getElem?_drop] at h1 h2
  obtain ⟨e, he, hd⟩ := h.get h1
  rw [h2] at he; cases he
  exact hd
theorem Den.lst {a : Addr} {xs : List V} {ds : List D} (h : Rd H a (.lst xs)) (hs : Dens H xs ds) : Den H (.ref a) (.lst ds) := by unfold Den; exact ⟨a, xs, rfl, h, hs⟩
theorem Den.tup {a : Addr} {xs : List V} {ds : List D} (h : H a = some (.tup xs)) (hs : Dens H xs ds) : Den H (.ref a) (.tup ds) := by unfold Den; exact ⟨a, xs, rfl, h, hs⟩
theorem Den.int (i : Int) : Den H (.int i) (.int i) := by unfold Den; rfl
theorem Den.str (x : Str) : Den H (.str x) (.str x) := by unfold Den; rfl
theorem Den.bl (b : Bool) : Den H (.bl b) (.bl b) := by unfold Den; rfl
theorem Den.non : Den H .non .non := by unfold Den; rfl
theorem Den.to_lst {v : V} {ds : List D} (h : Den H v (.lst ds)) : ∃ a xs, v = .ref a ∧ Rd H a (.lst xs) ∧ Dens H xs ds := by unfold Den at h; exact h
theorem Den.to_tup {v : V} {ds : List D} (h : Den H v (.tup ds)) : ∃ a xs, v = .ref a ∧ H a = some (.tup xs) ∧ Dens H xs ds := by unfold Den at h; exact h
theorem Den.to_int {v : V} {i : Int} (h : Den H v (.int i)) : v = .int i := by unfold Den at h; exact h
theorem Den.to_str {v : V} {i : Str} (h : Den H v (.str i)) : v = .str i := by unfold Den at h; exact h
theorem Dens.strs : ∀ (ns : List Str), Dens H (ns.map V.str) (ns.map D.str)
  | [] => .nil
  | n :: ns => .cons (.str n) (Dens.strs ns)
theorem Same.rd {a : Addr} {u : HO} (e : Same H H') (h : Rd H a u) : Rd H' a u := by
  rcases h with h | ⟨o, h⟩
  · exact .inl (e _ _ h)
  · exact .inr ⟨o, e _ _ h⟩
theorem Rd.inj {a : Addr} {xs ys : List V} (h : Rd H a (.lst xs)) (h' : Rd H a (.lst ys)) : xs = ys := by
  rcases h with h | ⟨o, h⟩ <;> rcases h' with h' | ⟨o', h'⟩ <;> rw [h] at h' <;> cases h' <;> rfl
mutual
theorem Den.same (e : Same H H') : ∀ {v : V} {d : D}, Den H v d → Den H' v d
  | _, .non, h => by unfold Den at h ⊢; exact h
  | _, .bl _, h => by unfold Den at h ⊢; exact h
  | _, .int _, h => by unfold Den at h ⊢; exact h
  | _, .str _, h => by unfold Den at h ⊢; exact h
  | _, .lst ds, h => by
    unfold Den at h ⊢
    obtain ⟨a, xs, e1, e2, e3⟩ := h
    exact ⟨a, xs, e1, e.rd e2, Dens.same e e3⟩
  | _, .tup ds, h => by
    unfold Den at h ⊢
    obtain ⟨a, xs, e1, e2, e3⟩ := h
    exact ⟨a, xs, e1, e _ _ e2, Dens.same e e3⟩
  | _, .oth, h => by
    unfold Den at h ⊢
    obtain ⟨a, kvs, e1, e2⟩ := h
    exact ⟨a, kvs, e1, e _ _ e2⟩
theorem Dens.same (e : Same H H') : ∀ {vs : List V} {ds : List D}, Dens H vs ds → Dens H' vs ds
  | [], [], h => .nil
  | [], _ :: _, h => by unfold Dens at h; exact h.elim
  | _ :: _, [], h => by unfold Dens at h; exact h.elim
  | v :: vs, d :: ds, h => by
    unfold Dens at h
    exact .cons (Den.same e h.1) (Dens.same e h.2)
end
end
section
variable {X : Cx} {pins : List (Addr × Obj)} {σ : St} {H : Hp} {s : Shared}
mutual
theorem Den.uniq : ∀ {v : V} {d d' : D}, Den H v d → Den H v d' → d = d'
  | v, .non, d', h, h' => by
    unfold Den at h; subst h
    cases d' with
    | non => rfl
    | lst es => unfold Den at h'; obtain ⟨_, _, z, _⟩ := h'; cases z
    | tup es => unfold Den at h'; obtain ⟨_, _, z, _⟩ := h'; cases z
    | oth => unfold Den at h'; obtain ⟨_, _, z, _⟩ := h'; cases z
    | _ => unfold Den at h'; cases h'
  | v, .bl b, d', h, h' => by
    unfold Den at h; subst h
    cases d' with
    | bl c => unfold Den at h'; cases h'; rfl
    | lst es => unfold Den at h'; obtain ⟨_, _, z, _⟩ := h'; cases z
    | tup es => unfold Den at h'; obtain ⟨_, _, z, _⟩ := h'; cases z
    | oth => unfold Den at h'; obtain ⟨_, _, z, _⟩ := h'; cases z
    | _ => unfold Den at h'; cases h'
  | v, .int b, d', h, h' => by
    unfold Den at h; subst h
    cases d' with
    | int c => unfold Den at h'; cases h'; rfl
    | lst es => unfold Den at h'; obtain ⟨_, _, z, _⟩ := h'; cases z
    | tup es => unfold Den at h'; obtain ⟨_, _, z, _⟩ := h'; cases z
    | oth => unfold Den at h'; obtain ⟨_, _, z, _⟩ := h'; cases z
    | _ => unfold Den at h'; cases h'
  | v, .str b, d', h, h' => by
    unfold Den at h; subst h
    cases d' with
    | str c => unfold Den at h'; cases h'; rfl
    | lst es => unfold Den at h'; obtain ⟨_, _, z, _⟩ := h'; cases z
    | tup es => unfold Den at h'; obtain ⟨_, _, z, _⟩ := h'; cases z
    | oth => unfold Den at h'; obtain ⟨_, _, z, _⟩ := h'; cases z
    | _ => unfold Den at h'; cases h'
  | v, .lst ds, d', h, h' => by
    obtain ⟨a, xs, rfl, e2, e3⟩ := h.to_lst
    cases d' with
    | lst es =>
      obtain ⟨b, ys, z, f2, f3⟩ := h'.to_lst
      cases z
      have := e2.inj f2
      subst this
      rw [Dens.uniq e3 f3]
    | tup es =>
      obtain ⟨b, ys, z, f2, f3⟩ := h'.to_tup
      cases z
      rcases e2 with e2 | ⟨o, e2⟩ <;> rw [e2] at f2 <;> cases f2
    | oth =>
      unfold Den at h'
      obtain ⟨b, ys, z, f2⟩ := h'
      cases z
      rcases e2 with e2 | ⟨o, e2⟩ <;> rw [e2] at f2 <;> cases f2
    | _ => unfold Den at h'; cases h'
  | v, .tup ds, d', h, h' => by
    obtain ⟨a, xs, rfl, e2, e3⟩ := h.to_tup
    cases d' with
    | tup es =>
      obtain ⟨b, ys, z, f2, f3⟩ := h'.to_tup
      cases z
      rw [e2] at f2
      cases f2
      rw [Dens.uniq e3 f3]
    | lst es =>
      obtain ⟨b, ys, z, f2, f3⟩ := h'.to_lst
      cases z
      rcases f2 with f2 | ⟨o, f2⟩ <;> rw [e2] at f2 <;> cases f2
    | oth =>
      unfold Den at h'
      obtain ⟨b, ys, z, f2⟩ := h'
      cases z
      rw [e2] at f2; cases f2
    | _ => unfold Den at h'; cases h'
  | v, .oth, d', h, h' => by
    unfold Den at h
    obtain ⟨a, kvs, rfl, e2⟩ := h
    cases d' with
    | oth => rfl
    | lst es =>
      obtain ⟨b, ys, z, f2, f3⟩ := h'.to_lst
      cases z
      rcases f2 with f2 | ⟨o, f2⟩ <;> rw [e2] at f2 <;> cases f2
    | tup es =>
      obtain ⟨b, ys, z, f2, f3⟩ := h'.to_tup
      cases z
      rw [e2] at f2; cases f2
    | _ => unfold Den at h'; cases h'
theorem Dens.uniq : ∀ {vs : List V} {ds es : List D}, Dens H vs ds → Dens H vs es → ds = es
  | [], [], [], _, _ => rfl
  | [], _ :: _, _, h, _ => by unfold Dens at h; exact h.elim
  | [], _, _ :: _, _, h => by unfold Dens at h; exact h.elim
  | _ :: _, [], _, h, _ => by unfold Dens at h; exact h.elim
  | _ :: _, _, [], _, h => by unfold Dens at h; exact h.elim
  | v :: vs, d :: ds, e :: es, h, h' => by
    unfold Dens at h h'
    rw [Den.uniq h.1 h'.1, Dens.uniq h.2 h'.2]
end

def tyD : D → String
  | .non => "NoneType"
  | .bl _ => "bool"
  | .int _ => "int"
  | .str _ => "str"
  | .lst _ => "list"
  | .tup _ => "tuple"
  | .oth => "dict"
theorem Den.ty {K : PySem.W.Frag} : ∀ {v : V} {d : D}, Den H v d → TyOf K H v (.type (tyD d))
  | _, .non, h => by unfold Den at h; subst h; exact .non
  | _, .bl b, h => by unfold Den at h; subst h; exact .bl b
  | _, .int b, h => by unfold Den at h; subst h; exact .int b
  | _, .str b, h => by unfold Den at h; subst h; exact .str b
  | _, .lst ds, h => by
    obtain ⟨a, xs, rfl, e2 | ⟨o, e2⟩, _⟩ := h.to_lst
    · exact .lst e2
    · exact .frz e2
  | _, .tup ds, h => by
    obtain ⟨a, xs, rfl, e2, _⟩ := h.to_tup
    exact .tup e2
  | _, .oth, h => by
    unfold Den at h
    obtain ⟨a, kvs, rfl, e2⟩ := h
    exact .dK e2
theorem getD_of {ds : List D} {i : Nat} {d : D} (h : ds[i]? = some d) : ds.getD i .non = d := by
  rw [List.getD_eq_getElem?_getD, h]; rfl

structure Cmp (A : Around) (s : Shared) (x y : Value) (b : Bool) : Prop where
  eq : SeqAt.EqAt A s x y b
  rc : SeqAt.RcAt A s x y b
  ne : SeqAt.RcNeAt A s x y (!b)
theorem cmp_seq {A : Around} {xs ys : List V} {ds es : List D} {its its2 : List Value} (h1 : Dens H xs ds) (h2 : Dens H ys es) (r1 : Vals xs its) (r2 : Vals ys its2)
    (ih : ∀ (d d' : D) (v u : V) (x y : Value), d ∈ ds → d' ∈ es → Den H v d → Den H u d' → RelV v x → RelV u y → SeqAt.EqAt A s x y (eqD d d')) :
    ∀ j (q1 : j < its.toArray.size) (q2 : j < its2.toArray.size), SeqAt.EqAt A s its.toArray[j] its2.toArray[j] (eqD (ds.getD j .non) (es.getD j .non)) := by
  intro j q1 q2
  have l1 := r1.length
  have l2 := r2.length
  have q1' : j < xs.length := by rw [l1]; simpa using q1
  have q2' : j < ys.length := by rw [l2]; simpa using q2
  obtain ⟨d, hd, den⟩ := h1.get (i := j) (List.getElem?_eq_getElem q1')
  obtain ⟨d', hd', den'⟩ := h2.get (i := j) (List.getElem?_eq_getElem q2')
  obtain ⟨u, hu, ru⟩ := r1.get (List.getElem?_eq_getElem q1')
  obtain ⟨u', hu', ru'⟩ := r2.get (List.getElem?_eq_getElem q2')
  rw [getD_of hd, getD_of hd']
  have e1 : its.toArray[j] = u := by
    have : its.toArray[j]? = some u := by simpa using hu
    rw [Array.getElem?_eq_getElem q1] at this
    exact Option.some.inj this
  have e2 : its2.toArray[j] = u' := by
    have : its2.toArray[j]? = some u' := by simpa using hu'
    rw [Array.getElem?_eq_getElem q2] at this
    exact Option.some.inj this
  rw [e1, e2]
  exact ih d d' _ _ _ _ (List.mem_of_getElem? hd) (List.mem_of_getElem? hd') den den' ru ru'
theorem cmp_of_refs {A : Around} {a b : Addr} {d d' : D} {k : Bool} (hk : k = eqD d d') (hok : d.ok = true) (h1 : Den H (.ref a) d) (h2 : Den H (.ref b) d') (rc : SeqAt.RcAt A s (.ref a) (.ref b) k) (ne : SeqAt.RcNeAt A s (.ref a) (.ref b) (!k)) : Cmp A s (.ref a) (.ref b) (eqD d d') := by
  subst hk
  refine ⟨?_, rc, ne⟩
  by_cases hab : a = b
  · subst hab
    have := h1.uniq h2
    subst this
    rw [eqD_refl _ hok]
    exact .same _
  · exact .of_refs hab rc
theorem cmp_D (I : Inv X pins σ H s) : ∀ (n : Nat) (A : Around) (d d' : D) (v u : V) (x y : Value), d.ok = true → d'.ok = true → d.dep ≤ n → A.units + n < cLine → Den H v d → Den H u d' → RelV v x → RelV u y → Cmp A s x y (eqD d d') := by
  intro n
  induction n with
  | zero =>
    intro A d d' v u x y hok hok' hn hu h h' r r'
    have hu' : A.units < cLine := by omega
    cases d with
    | lst ds => unfold D.dep at hn; omega
    | tup ds => unfold D.dep at hn; omega
    | oth => unfold D.ok at hok; cases hok
    | non =>
      unfold Den at h; subst h; cases r
      cases d' with
      | non => unfold Den at h'; subst h'; cases r'; unfold eqD; exact ⟨.same _, .none_none, .none_none⟩
      | bl b => unfold Den at h'; subst h'; cases r'; unfold eqD; exact ⟨.none_bool _, .none_bool _, .none_bool _⟩
      | int b => unfold Den at h'; subst h'; obtain ⟨t, rfl⟩ := r'; unfold eqD; exact ⟨.none_int _ _, .none_int _ _, .none_int _ _⟩
      | str b => unfold Den at h'; subst h'; obtain ⟨t, rfl⟩ := r'; unfold eqD; exact ⟨.none_str _ _, .none_str _ _, .none_str _ _⟩
      | lst ds => obtain ⟨a, xs, rfl, e2, _⟩ := h'.to_lst; cases r'; obtain ⟨_, _, p, _⟩ := I.list (.inl e2); unfold eqD; exact ⟨.none_list p.isList hu', .none_list p.isList hu', .none_list p.isList hu'⟩
      | tup ds => obtain ⟨a, xs, rfl, e2, _⟩ := h'.to_tup; cases r'; obtain ⟨_, _, p, _⟩ := I.tuple (.inl (.inl e2)); unfold eqD; exact ⟨.none_tuple p hu', .none_tuple p hu', .none_tuple p hu'⟩
      | oth => unfold D.ok at hok'; cases hok'
    | bl c =>
      unfold Den at h; subst h; cases r
      cases d' with
      | non => unfold Den at h'; subst h'; cases r'; unfold eqD; exact ⟨.bool_none _, .bool_none _, .bool_none _⟩
      | bl b => unfold Den at h'; subst h'; cases r'; unfold eqD; exact ⟨.bool_bool _ _, .bool_bool _ _, .bool_bool _ _⟩
      | int b => unfold Den at h'; subst h'; obtain ⟨t, rfl⟩ := r'; unfold eqD; exact ⟨.bool_int _ _ _, .bool_int _ _ _, .bool_int _ _ _⟩
      | str b => unfold Den at h'; subst h'; obtain ⟨t, rfl⟩ := r'; unfold eqD; exact ⟨.bool_str _ _ _, .bool_str _ _ _, .bool_str _ _ _⟩
      | lst ds => obtain ⟨a, xs, rfl, e2, _⟩ := h'.to_lst; cases r'; obtain ⟨_, _, p, _⟩ := I.list (.inl e2); unfold eqD; exact ⟨.bool_list _ p.isList hu', .bool_list _ p.isList hu', .bool_list _ p.isList hu'⟩
      | tup ds => obtain ⟨a, xs, rfl, e2, _⟩ := h'.to_tup; cases r'; obtain ⟨_, _, p, _⟩ := I.tuple (.inl (.inl e2)); unfold eqD; exact ⟨.bool_tuple _ p hu', .bool_tuple _ p hu', .bool_tuple _ p hu'⟩
      | oth => unfold D.ok at hok'; cases hok'
    | int c =>
      unfold Den at h; subst h; obtain ⟨t, rfl⟩ := r
      cases d' with
      | non => unfold Den at h'; subst h'; cases r'; unfold eqD; exact ⟨.int_none _ _, .int_none _ _, .int_none _ _⟩
      | bl b => unfold Den at h'; subst h'; cases r'; unfold eqD; exact ⟨.int_bool _ _ _, .int_bool _ _ _, .int_bool _ _ _⟩
      | int b => unfold Den at h'; subst h'; obtain ⟨t, rfl⟩ := r'; unfold eqD; exact ⟨.int_int _ _ _ _, .int_int _ _ _ _, .int_int _ _ _ _⟩
      | str b => unfold Den at h'; subst h'; obtain ⟨t, rfl⟩ := r'; unfold eqD; exact ⟨.int_str _ _ _ _, .int_str _ _ _ _, .int_str _ _ _ _⟩
      | lst ds => obtain ⟨a, xs, rfl, e2, _⟩ := h'.to_lst; cases r'; obtain ⟨_, _, p, _⟩ := I.list (.inl e2); unfold eqD; exact ⟨.int_list _ _ p.isList hu', .int_list _ _ p.isList hu', .int_list _ _ p.isList hu'⟩
      | tup ds => obtain ⟨a, xs, rfl, e2, _⟩ := h'.to_tup; cases r'; obtain ⟨_, _, p, _⟩ := I.tuple (.inl (.inl e2)); unfold eqD; exact ⟨.int_tuple _ _ p hu', .int_tuple _ _ p hu', .int_tuple _ _ p hu'⟩
      | oth => unfold D.ok at hok'; cases hok'
    | str c =>
      unfold Den at h; subst h; obtain ⟨t, rfl⟩ := r
      cases d' with
      | non => unfold Den at h'; subst h'; cases r'; unfold eqD; exact ⟨.str_none _ _, .str_none _ _, .str_none _ _⟩
      | bl b => unfold Den at h'; subst h'; cases r'; unfold eqD; exact ⟨.str_bool _ _ _, .str_bool _ _ _, .str_bool _ _ _⟩
      | int b => unfold Den at h'; subst h'; obtain ⟨t, rfl⟩ := r'; unfold eqD; exact ⟨.str_int _ _ _ _, .str_int _ _ _ _, .str_int _ _ _ _⟩
      | str b => unfold Den at h'; subst h'; obtain ⟨t, rfl⟩ := r'; unfold eqD; exact ⟨.str_str _ _ _ _, .str_str _ _ _ _, .str_str _ _ _ _⟩
      | lst ds => obtain ⟨a, xs, rfl, e2, _⟩ := h'.to_lst; cases r'; obtain ⟨_, _, p, _⟩ := I.list (.inl e2); unfold eqD; exact ⟨.str_list _ _ p.isList hu', .str_list _ _ p.isList hu', .str_list _ _ p.isList hu'⟩
      | tup ds => obtain ⟨a, xs, rfl, e2, _⟩ := h'.to_tup; cases r'; obtain ⟨_, _, p, _⟩ := I.tuple (.inl (.inl e2)); unfold eqD; exact ⟨.str_tuple _ _ p hu', .str_tuple _ _ p hu', .str_tuple _ _ p hu'⟩
      | oth => unfold D.ok at hok'; cases hok'
  | succ n ih =>
    intro A d d' v u x y hok hok' hn hu h h' r r'
    have hu' : A.units < cLine := by omega
    have hin : A.in1.units + n < cLine := by show A.units + 1 + n < cLine; omega
    cases d with
    | lst ds =>
      have hn' : ∀ d ∈ ds, d.dep ≤ n := fun d hd => by
        have h1 := depS_le hd
        unfold D.dep at hn
        omega
      obtain ⟨a, xs, rfl, e2, e3⟩ := h.to_lst
      cases r
      obtain ⟨its, r1, p, _⟩ := I.list (.inl e2)
      cases d' with
      | oth => unfold D.ok at hok'; cases hok'
      | non => unfold Den at h'; subst h'; cases r'; unfold eqD; exact ⟨.list_none p.isList hu', .list_none p.isList hu', .list_none p.isList hu'⟩
      | bl b => unfold Den at h'; subst h'; cases r'; unfold eqD; exact ⟨.list_bool _ p.isList hu', .list_bool _ p.isList hu', .list_bool _ p.isList hu'⟩
      | int b => unfold Den at h'; subst h'; obtain ⟨t, rfl⟩ := r'; unfold eqD; exact ⟨.list_int _ _ p.isList hu', .list_int _ _ p.isList hu', .list_int _ _ p.isList hu'⟩
      | str b => unfold Den at h'; subst h'; obtain ⟨t, rfl⟩ := r'; unfold eqD; exact ⟨.list_str _ _ p.isList hu', .list_str _ _ p.isList hu', .list_str _ _ p.isList hu'⟩
      | tup es => obtain ⟨b, ys, rfl, f2, f3⟩ := h'.to_tup; cases r'; obtain ⟨_, _, p2, _⟩ := I.tuple (.inl (.inl f2)); unfold eqD; exact ⟨.list_tuple p.isList p2 hu', .list_tuple p.isList p2 hu', .list_tuple p.isList p2 hu'⟩
      | lst es =>
        have hok1 := hok
        have hok2 := hok'
        unfold D.ok at hok1 hok2
        obtain ⟨b, ys, rfl, f2, f3⟩ := h'.to_lst
        cases r'
        obtain ⟨its2, r2, p2, _⟩ := I.list (.inl f2)
        have n1 : its.toArray.size = ds.length := by rw [List.size_toArray, ← r1.length, e3.len]
        have n2 : its2.toArray.size = es.length := by rw [List.size_toArray, ← r2.length, f3.len]
        by_cases hl : ds.length = es.length
        · have items := cmp_seq (A := A.in1) e3 f3 r1 r2 fun d d' v u x y hd hd' q1 q2 q3 q4 => (ih A.in1 d d' v u x y (okS_mem hok1 hd) (okS_mem hok2 hd') (hn' d hd) hin q1 q2 q3 q4).eq
          refine cmp_of_refs (k := (List.range its.toArray.size).all fun j => eqD (ds.getD j .non) (es.getD j .non)) ?_ hok h h' (.lists p.isList p2.isList (by rw [n1, n2, hl]) hu' items) (.lists p.isList p2.isList (by rw [n1, n2, hl]) hu' items)
          rw [n1, ← eqDs_all hl, eqD_lst]
        · refine cmp_of_refs (k := false) ?_ hok h h' (.lists_lengths p.isList p2.isList (by rw [n1, n2]; simpa using hl) hu') (.lists_lengths p.isList p2.isList (by rw [n1, n2]; simpa using hl) hu')
          unfold eqD
          rw [eqDs_len hl]
    | tup ds =>
      have hn' : ∀ d ∈ ds, d.dep ≤ n := fun d hd => by
        have h1 := depS_le hd
        unfold D.dep at hn
        omega
      obtain ⟨a, xs, rfl, e2, e3⟩ := h.to_tup
      cases r
      obtain ⟨its, r1, p, _⟩ := I.tuple (.inl (.inl e2))
      cases d' with
      | oth => unfold D.ok at hok'; cases hok'
      | non => unfold Den at h'; subst h'; cases r'; unfold eqD; exact ⟨.tuple_none p hu', .tuple_none p hu', .tuple_none p hu'⟩
      | bl b => unfold Den at h'; subst h'; cases r'; unfold eqD; exact ⟨.tuple_bool _ p hu', .tuple_bool _ p hu', .tuple_bool _ p hu'⟩
      | int b => unfold Den at h'; subst h'; obtain ⟨t, rfl⟩ := r'; unfold eqD; exact ⟨.tuple_int _ _ p hu', .tuple_int _ _ p hu', .tuple_int _ _ p hu'⟩
      | str b => unfold Den at h'; subst h'; obtain ⟨t, rfl⟩ := r'; unfold eqD; exact ⟨.tuple_str _ _ p hu', .tuple_str _ _ p hu', .tuple_str _ _ p hu'⟩
      | lst es => obtain ⟨b, ys, rfl, f2, f3⟩ := h'.to_lst; cases r'; obtain ⟨_, _, p2, _⟩ := I.list (.inl f2); unfold eqD; exact ⟨.tuple_list p p2.isList hu', .tuple_list p p2.isList hu', .tuple_list p p2.isList hu'⟩
      | tup es =>
        have hok1 := hok
        have hok2 := hok'
        unfold D.ok at hok1 hok2
        obtain ⟨b, ys, rfl, f2, f3⟩ := h'.to_tup
        cases r'
        obtain ⟨its2, r2, p2, _⟩ := I.tuple (.inl (.inl f2))
        have n1 : its.toArray.size = ds.length := by rw [List.size_toArray, ← r1.length, e3.len]
        have n2 : its2.toArray.size = es.length := by rw [List.size_toArray, ← r2.length, f3.len]
        have items := cmp_seq (A := A.in1) e3 f3 r1 r2 fun d d' v u x y hd hd' q1 q2 q3 q4 => (ih A.in1 d d' v u x y (okS_mem hok1 hd) (okS_mem hok2 hd') (hn' d hd) hin q1 q2 q3 q4).eq
        refine cmp_of_refs (k := (List.range (min its.toArray.size its2.toArray.size)).all (fun j => eqD (ds.getD j .non) (es.getD j .non)) && its.toArray.size == its2.toArray.size) ?_ hok h h' (.tuples p p2 hu' items) (.tuples p p2 hu' items)
        rw [n1, n2, eqD_tup]
        by_cases hl : ds.length = es.length
        · rw [eqDs_all hl, ← hl, Nat.min_self, beq_self_eq_true, Bool.and_true]
        · rw [eqDs_len hl, beq_eq_false_iff_ne.mpr hl, Bool.and_false]
    | oth => unfold D.ok at hok; cases hok
    | non => exact ih A .non d' v u x y hok hok' (by unfold D.dep; omega) (by omega) h h' r r'
    | bl b => exact ih A (.bl b) d' v u x y hok hok' (by unfold D.dep; omega) (by omega) h h' r r'
    | int b => exact ih A (.int b) d' v u x y hok hok' (by unfold D.dep; omega) (by omega) h h' r r'
    | str b => exact ih A (.str b) d' v u x y hok hok' (by unfold D.dep; omega) (by omega) h h' r r'
theorem op_eq_deep (K : PySem.W.Frag) (hK : X.K = K) (hu : X.A.units + 64 < cLine) : OpR X (compareOp .Eq) (fun x y H Q => ∃ d d', Den H x d ∧ Den H y d' ∧ d.ok = true ∧ d'.ok = true ∧ d.dep ≤ 64 ∧ Q (.bl (eqD d d')) H) := by
  subst hK
  intro pins s σ H x y v u Q I rx ry h
  obtain ⟨d, d', h1, h2, k1, k2, hd, q⟩ := h
  exact (cmp_D I 64 X.A d d' x y v u k1 k2 hd hu h1 h2 rx ry).rc X.prog X.w _ _ ⟨.bl _, H, I, rfl, q⟩
theorem op_ne_deep (K : PySem.W.Frag) (hK : X.K = K) (hu : X.A.units + 64 < cLine) : OpR X (compareOp .NotEq) (fun x y H Q => ∃ d d', Den H x d ∧ Den H y d' ∧ d.ok = true ∧ d'.ok = true ∧ d.dep ≤ 64 ∧ Q (.bl (!eqD d d')) H) := by
  subst hK
  intro pins s σ H x y v u Q I rx ry h
  obtain ⟨d, d', h1, h2, k1, k2, hd, q⟩ := h
  exact (cmp_D I 64 X.A d d' x y v u k1 k2 hd hu h1 h2 rx ry).ne X.prog X.w _ _ ⟨.bl _, H, I, rfl, q⟩
end
end L2


set_option linter.all false
set_option maxRecDepth 100000
set_option maxHeartbeats 4000000
namespace L2
open PySem PySem.Spec PyProof.Rows
section
variable {X : Cx} {pins : List (Addr × Obj)} {σ : St} {H : Hp} {s : Shared} {h' : Heap}

theorem Inv.turns {t' : Nat} {ch : List Addr} (I : Inv X pins σ H s) (k : ∀ b o, b ∉ ch → s.heap.get? b = some o → h'.get? b = some o) (hf : ∀ b ∈ ch, FpOk X pins H b) : Inv X pins σ H { s with heap := h', toks := t' } := by
  have nit : ∀ b u, H b = some u → b ∉ ch := fun b u e z => by rw [(hf b z).1] at e; cases e
  refine I.step (g' := s.gens) (d' := s.drawn) (ch := ch) (fun b hb => ⟨(hf b hb).2.2.2.1, (hf b hb).2.1, (hf b hb).2.2.2.2.1, (hf b hb).2.2.2.2.2⟩) (fun b o _ _ hc e _ => k b o hc e) (fun b o _ _ hc e _ => ⟨o.slots, k b o hc e⟩) (fun _ _ _ _ n => n)
    (fun b o hc e => ⟨o, k b o hc e⟩) (fun _ _ e => e) (fun _ _ _ e => e) (fun b ps e => ⟨#[], by rw [e]; simp⟩) (fun m hm => ?_) (fun b u e => ?_) I.bare
  · obtain ⟨o, es, ep, ho, r⟩ := hm
    exact ⟨o, es, ep, k _ o (fun z => (hf _ z).2.1 rfl) ho, r⟩
  · refine (I.hok b u e).stay (fun c v hc q => k c v ?_ q) (fun _ q => q) fun _ _ q => q
    rcases hc with z | z
    · rw [z]; exact nit b u e
    · exact nit c _ z

theorem Inv.trackT {T : Addr} {xs : List V} {its : List Value} (I : Inv X pins σ H s) (new : H T = none) (ht : IsTup s.heap T its.toArray) (rv : Vals xs its) (hz : xs.length ≤ sizeLine) (hs : ∀ o, X.s₀.heap.get? T ≠ some o) (hp : ∀ p ∈ X.pn ++ pins, p.1 ≠ T) :
    Inv X pins σ (upd H T (.tup xs)) s := by
  obtain ⟨ot, hot, hct, nt, hdt⟩ := id ht
  have hL : X.env.locals ≠ T := fun z => by
    obtain ⟨m, ⟨o, es, ep, ho, hd', _⟩, _⟩ := I.loc
    rw [z, hot] at ho; cases ho; rw [hdt] at hd'; cases hd'
  have hC : ∀ x c, X.env.cells.lookup x = some c → c ≠ T := fun x c h1 z => by
    obtain ⟨v, o, ho, hd'⟩ := I.cell x c h1
    rw [z, hot] at ho; cases ho; rw [hdt] at hd'; cases hd'
  refine ⟨I.ok, I.os, I.bare, ?_, I.loc, I.cell, by rw [upd_ne hL]; exact I.free, fun x c h1 => by rw [upd_ne (hC x c h1)]; exact I.freeC x c h1, fun p hp' => ?_, fun a o ea => ?_, I.len⟩
  · exact ⟨I.base.keep, I.base.slot, fun b o q n hx => by rw [upd_ne (fun z => hs o (by rw [← z]; exact q))]; exact I.base.free b o q n hx, I.base.there,
      fun b xs q => by have z := I.base.tups b xs q; rw [upd_ne (ne_of_none z new)]; exact z, fun b ob u q => by have z := I.base.frzs b ob u q; rw [upd_ne (ne_of_none z new)]; exact z,
      fun b ps q => by obtain ⟨mo, z⟩ := I.base.tbls b ps q; exact ⟨mo, by rw [upd_ne (ne_of_none z new)]; exact z⟩⟩
  · obtain ⟨p1, p2, p3⟩ := I.pin p hp'
    exact ⟨p1, by rw [upd_ne (hp p hp')]; exact p2, p3⟩
  · by_cases ha : a = T
    · subst ha
      rw [upd_same] at ea
      cases ea
      exact ⟨hz, its, rv, ht⟩
    · rw [upd_ne ha] at ea
      exact (I.hok a o ea).stay (fun _ _ _ q => q) (fun b q => by rw [upd_ne (ne_of_none q new)]; exact q) fun b xs q => by rw [upd_ne (ne_of_none q new)]; exact q
end

section
variable {X : Cx} {elts : List Expr} {k : Nat} {tpos : Pos}
end

def GivesG (J : It) (n : Nat) (H : Hp) (item : Nat → V → Hp → Prop) : Prop := ∀ i H', Same H H' → Plain H' → (i < n → J.go i H' ∧ ∀ x H3, J.yld i H' x H3 → Same H' H3 ∧ Plain H3 ∧ item i x H3) ∧ J.stop n H'
theorem GivesN.g {J : It} {n : Nat} {H : Hp} {item : Nat → V → Prop} (h : GivesN J n H item) : GivesG J n H fun i x _ => item i x := fun i H' s p =>
  ⟨fun hi => ⟨((h i H' s).1 hi).1, fun x H3 hy => by obtain ⟨e, it⟩ := ((h i H' s).1 hi).2 x H3 hy; subst e; exact ⟨Same.refl _, p, it⟩⟩, (h i H' s).2⟩
end L2


set_option linter.all false
set_option maxRecDepth 100000
set_option maxHeartbeats 4000000
namespace L2
open PySem PySem.Spec PyProof.Rows
section
variable {X : Cx} {elt tg iter : Expr} {ifs : List Expr} {scope : Scope} {cl : List (Str × Addr)} {N : List Str} {ρ : List (Option Nat)} {pos : Pos} {wi : TI} {g : TG} {tc : TT} {te : TE}

theorem comp_core (hc : X.calm = true) (S : CompScope X N ρ scope cl)
    (hg : ∀ C s₀ H₀ ex pn, PG (cxComp X N scope cl C s₀ H₀ ex pn) tg g) (ht : ∀ C s₀ H₀ ex pn, PTs (cxComp X N scope cl C s₀ H₀ ex pn) ifs tc) (he : ∀ C s₀ H₀ ex pn, PE (cxComp X N scope cl C s₀ H₀ ex pn) elt te)
    {pins : List (Addr × Obj)} {s2 : Shared} {σ : St} {H2 : Hp} {it : Addr} {fp : List Addr} {tn : Nat → Heap → Prop} {J : It} {Q : VK} {RR : Value → Addr → Result → Shared → Prop} (I2 : Inv X pins σ H2 s2) (T : Turn X.prog X.w X.K tg J fp it tn) (st2 : tn 0 s2.heap) (f2 : ∀ b ∈ fp, FpOk X pins H2 b)
    (q2 : ∀ l, H2 l = none → CompOk J g tc te Q l (pick ρ σ) H2)
    (fin : ∀ (l C : Addr) (s5 : Shared) (H4 : Hp) (m : Str → Option Value), Inv X pins σ H4 s5 → FpOk X pins H4 C → s5.heap.Ns C m → Q (.ref l) H4 → RR (.ref l) C (.ok .next) s5) :
    wpAny (model X.prog X.w) X.A (newList []) (fun acc s3 => wpAny (model X.prog X.w) X.A (newFunctionEnv scope X.env.globals cl [] X.env.qual none .none (some X.env)) (fun cenv s4 =>
      codeAny (model X.prog X.w) X.A (.compStart (.ListComp elt [⟨tg, iter, ifs, 0⟩] scope pos) 0 (.ref it) acc { cenv with scope := relabel scope X.env }) (RR acc cenv.locals) s4) X.xe s3) X.xe s2 := by
  obtain ⟨W, ⟨m0, w0⟩, turn⟩ := q2 _ (I2.hok.fresh (Nat.le_refl _))
  refine wpAny_newObj_type (wpAny_newFunctionEnv S.nocell (by intro y hy; simp at hy) (fun h₁ hns₁ hsb₁ => ?_) S.kind)
  dsimp only at hns₁ hsb₁ ⊢
  have I3 : Inv X pins σ (upd H2 s2.heap.objs.size (.lst [])) { s2 with heap := s2.heap.push { cls := .type "list", dict := none, data := .seq ([] : List Value).toArray } } :=
    I2.laid (t' := s2.toks) (fun b u eo => Heap.get?_push_of_some _ eo) (Nat.le_refl _) ⟨by simp, [], 0, .nil, Heap.get?_push_size _ rfl⟩
  generalize hs3 : ({ s2 with heap := s2.heap.push { cls := .type "list", dict := none, data := .seq ([] : List Value).toArray } } : Shared) = s3 at I3
  have es3 : s2.heap.push { cls := .type "list", dict := none, data := .seq ([] : List Value).toArray } = s3.heap := by rw [← hs3]
  rw [es3] at hns₁ hsb₁ ⊢
  have f3 : ∀ b ∈ fp, FpOk X pins (upd H2 s2.heap.objs.size (.lst [])) b := fun b hb => by
    obtain ⟨o, eo, _⟩ := T.obj _ _ st2 b hb
    exact ⟨by rw [upd_ne (Nat.ne_of_lt (Heap.lt_size eo))]; exact (f2 b hb).1, (f2 b hb).2⟩
  have lt3 : ∀ b ∈ fp, b < s3.heap.objs.size := fun b hb => by
    obtain ⟨o, eo, _⟩ := T.obj _ _ st2 b hb
    rw [← es3, Heap.size_push]
    exact Nat.lt_succ_of_lt (Heap.lt_size eo)
  have old : ∀ b o, s3.heap.get? b = some o → h₁.get? b = some o := fun b o eo => hsb₁.extBut b o (Nat.ne_of_lt (Heap.lt_size eo)) (Heap.get?_push_of_some _ eo)
  have Ic : Inv (cxComp X N scope cl s3.heap.objs.size s3 (upd H2 s2.heap.objs.size (.lst [])) fp (X.pn ++ pins)) [] (pick ρ σ) (upd H2 s2.heap.objs.size (.lst [])) { s2 with heap := h₁, toks := s2.toks + ([] : List (Str × Value)).length } :=
    inv_comp S I3 f3 lt3 hns₁ old (by rw [← hs3] <;> rfl)
  have stat : ∀ {pl : List (Addr × Obj)} {H' : Hp}, pl = [] → (∀ b ∈ fp, H' b = none) → ∀ b ∈ fp, FpOk (cxComp X N scope cl s3.heap.objs.size s3 (upd H2 s2.heap.objs.size (.lst [])) fp (X.pn ++ pins)) pl H' b := fun {pl H'} epl hn b hb => by
    subst epl
    refine ⟨hn b hb, Nat.ne_of_lt (lt3 b hb), fun z => ?_, .inl hb, fun x c h1 => (f2 b hb).2.2.2.2.1 x c (S.sub x c h1), fun p hp => (f2 b hb).2.2.2.2.2 p (by simpa using hp)⟩
    rcases List.mem_cons.mp (I3.stkSub b z) with z | z
    · exact (f2 b hb).2.1 z
    · exact (f2 b hb).2.2.1 z
  have st4 : tn 0 h₁ := T.keep _ _ _ st2 fun b hb o eo => old b o (by rw [← es3]; exact Heap.get?_push_of_some _ eo)
  have loop : codeAny (model X.prog X.w) X.A (.compLoop (.ListComp elt [⟨tg, iter, ifs, 0⟩] scope pos) 0 (.ref it) (.ref s2.heap.objs.size) (compEnvC scope cl s3.heap.objs.size X.env))
      (RR (.ref s2.heap.objs.size) s3.heap.objs.size) { s2 with heap := h₁, toks := s2.toks + ([] : List (Str × Value)).length } := by
    refine comp_loop (fun n s' => ∃ i ys τ H', Inv (cxComp X N scope cl s3.heap.objs.size s3 (upd H2 s2.heap.objs.size (.lst [])) fp (X.pn ++ pins)) [] τ H' s' ∧ tn i s'.heap ∧ (∀ b ∈ fp, H' b = none) ∧ W i n ys τ H') ?_ m0
      ⟨0, [], _, _, Ic, st4, fun b hb => (f3 b hb).1, w0⟩
    rintro n s4 ⟨i, ys, τ, H4, I4, st, fr4, w4⟩
    rcases turn i n ys τ H4 w4 with ⟨stop, qn⟩ | ⟨go, step⟩
    · refine thn (T.done (cxComp X N scope cl s3.heap.objs.size s3 (upd H2 s2.heap.objs.size (.lst [])) fp (X.pn ++ pins)) rfl rfl rfl hc i [] s4 τ H4 _ I4 (stat rfl fr4) st stop) fun r s5 ⟨hr, I5⟩ => ?_
      subst hr
      obtain ⟨m5, hn5, _⟩ := I5.loc
      have get' : ∀ b o, s5.heap.get? b = some o → s5.heap.get? b = some o := fun b o eo => eo
      have un : Un (frs X.stack) fp (upd H2 s2.heap.objs.size (.lst [])) H4 s3.heap s5.heap :=
        ⟨fun b o eo n1 n2 n3 => I5.base.keep b o eo n1 n2 n3, fun b o eo n1 n2 n3 => I5.base.slot b o eo n1 n2 n3, I5.base.free, fun b o eo n1 => I5.base.there b o eo n1, I5.base.tups, I5.base.frzs, I5.base.tbls⟩
      have I6 : Inv X pins σ H4 s5 := I3.call' (s' := s5) (ch := fp) (show s5.os = s3.os from I5.os) un I5.hok I5.bare fun b hb => ⟨(f3 b hb).2.2.2.1, (f3 b hb).2.1, (f3 b hb).2.2.2.2.1, (f3 b hb).2.2.2.2.2⟩
      have fr : H4 s3.heap.objs.size = none := I5.free
      exact fin _ _ s5 H4 m5 I6 (I3.fpOk (Nat.le_refl _) fr) hn5 qn
    · refine thn (T.item (cxComp X N scope cl s3.heap.objs.size s3 (upd H2 s2.heap.objs.size (.lst [])) fp (X.pn ++ pins)) rfl rfl rfl hc i [] s4 τ H4 _ I4 (stat rfl fr4) st go) fun r s5 ⟨u, hr, h5⟩ => ?_
      subst hr
      refine thn h5 fun _ s6 ⟨x, H6, I6, r6, y6, st6, fr6⟩ => ?_
      have I6' := I6.pinned (stat rfl fr6) (T.obj _ _ st6)
      have again : ∀ {s9 : Shared} {τ9 : St} {H9 : Hp} {zs : List V} {m' : Nat}, Inv (cxComp X N scope cl s3.heap.objs.size s3 (upd H2 s2.heap.objs.size (.lst [])) fp (X.pn ++ pins)) ([] ++ pinsAt fp s6.heap) τ9 H9 s9 → m' < n → W (i + 1) m' zs τ9 H9 →
          ∃ m, m < n ∧ ∃ i ys τ H', Inv (cxComp X N scope cl s3.heap.objs.size s3 (upd H2 s2.heap.objs.size (.lst [])) fp (X.pn ++ pins)) [] τ H' s9 ∧ tn i s9.heap ∧ (∀ b ∈ fp, H' b = none) ∧ W i m ys τ H' := fun {s9 τ9 H9 zs m'} I9 hm w9 => by
        refine ⟨m', hm, i + 1, zs, τ9, H9, I9.unpinned, T.keep _ _ _ st6 fun b hb o eo => (I9.pin (b, o) (List.mem_append_right _ (List.mem_append_right _ (mem_pinsAt hb eo)))).1, fun b hb => ?_, w9⟩
        obtain ⟨o, eo, d⟩ := T.obj _ _ st6 b hb
        exact (I9.pin (b, o) (List.mem_append_right _ (List.mem_append_right _ (mem_pinsAt hb eo)))).2.1
      refine thn (hg _ _ _ _ _ _ s6 τ H6 x u _ I6' r6 (step x H6 y6)) fun _ s7 ⟨τ7, H7, I7, q7⟩ => ?_
      refine thn (ht _ _ _ _ _ _ s7 τ7 H7 _ I7 q7) fun ok s8 ⟨H8, I8, q8⟩ => ?_
      cases ok with
      | false =>
        rw [if_neg Bool.false_ne_true] at q8 ⊢
        obtain ⟨m', hm, w9⟩ := q8
        exact again I8 hm w9
      | true =>
        rw [if_pos rfl] at q8 ⊢
        refine thn (he _ _ _ _ _ _ s8 τ7 H8 _ I8 q8) fun y s9 ⟨z, H9, I9, r9, hl9, hz9, m', hm, w9⟩ => ?_
        refine thn (mt_append _ s9 τ7 H9 (.ref s2.heap.objs.size) [z] (.ref s2.heap.objs.size) [y] (fun _ H' => H' = upd H9 s2.heap.objs.size (.lst (ys ++ [z]))) I9 rfl (.cons r9 .nil) ⟨_, ys, z, rfl, rfl, hl9, hz9, rfl⟩) fun _ s10 ⟨_, H10, I10, _, e10⟩ => ?_
        subst e10
        exact again I10 hm w9
  exact codeAny_compStart_list loop (T.self _ 0 _ _ _ st4 loop)

def tSetC (i : Nat) (te : TE) : TS := fun D σ H => te σ H fun v H1 => D.nx (σ.set i (some v)) H1
theorem ps_setC {i : Nat} {y : Str} {py spos : Pos} (hN : X.N.Nodup) (hi : X.N[i]? = some y) (hy : X.env.scope.names.lookup y = some .local) (hc : X.calm = true) (S : CompScope X N ρ scope cl) (hI : PI X tg iter wi)
    (hg : ∀ C s₀ H₀ ex pn, PG (cxComp X N scope cl C s₀ H₀ ex pn) tg g) (ht : ∀ C s₀ H₀ ex pn, PTs (cxComp X N scope cl C s₀ H₀ ex pn) ifs tc) (he : ∀ C s₀ H₀ ex pn, PE (cxComp X N scope cl C s₀ H₀ ex pn) elt te)
    (hsw : swapsWith (.ListComp elt [⟨tg, iter, ifs, 0⟩] scope pos) (some (.Name y py)) spos.line X.env = pure true := by rfl) (hs : ∀ x, foldedSetIterable iter X.env x = pure x := by intro _; rfl) :
    PS X (.Assign [.Name y py] (.ListComp elt [⟨tg, iter, ifs, 0⟩] scope pos) spos) (tSetC i (tComp ρ wi g tc te)) := by
  intro pins s σ H D I h
  rw [exec_Assign_Name_used _ _ _ _ hsw]
  refine wpAny_bind (wpAny_standAt (wpAny_bind ?_))
  show wpAny _ X.A (do let _ ← comprehension (.ListComp elt [⟨tg, iter, ifs, 0⟩] scope pos) scope X.env _ (newList []) false (eval iter X.env) (some (assign (.Name y py) X.env))) _ _ s
  refine wpAny_bind (wpAny_mono (wpAny_comprehension_free (use := some (assign (.Name y py) X.env)) (Q := fun _ s' => SP X pins D .next s') rfl hs S.clos S.kind S.loc
    (thn (hI pins s σ H _ I h) fun v s1 h1 => thn h1 fun itv s2 h2 => ?_)) (fun _ s' hq => wpAny_pure (wpAny_pure hq)) fun _ _ e => e)
  obtain ⟨it, fp, tn, J, H2, e, I2, T, st2, f2, q2⟩ := h2
  subst e
  refine comp_core (RR := fun acc C => compPost (model X.prog X.w) X.A X.xe (some (assign (.Name y py) X.env)) (fun _ s' => SP X pins D .next s') acc C) hc S hg ht he I2 T st2 f2 q2 fun l C s5 H4 m I6 fC hn q => ?_
  obtain ⟨oC, es, ep, hoC, hdC, hrest⟩ := id hn
  have I7 := I6.pinned (fp := [C]) (fun b hb => by rw [List.mem_singleton.mp hb]; exact fC) (fun b hb => ⟨oC, by rw [List.mem_singleton.mp hb]; exact hoC, fun v z => by rw [hdC] at z; cases z⟩)
  show wpAny _ X.A (assign (.Name y py) X.env (.ref l)) _ _ s5
  refine wpAny_assign_Name (store_ok I7 hN hi (.inl hy) (v := .ref l) rfl (fun s6 I8 => ?_) (.inr hy))
  have hpin := (I8.pin (C, oC) (List.mem_append_right _ (List.mem_append_right _ (mem_pinsAt (List.mem_singleton.mpr rfl) hoC))))
  refine ⟨m, ⟨oC, es, ep, hpin.1, hdC, hrest⟩, fun h' hs' => ?_⟩
  have fC' : ∀ b ∈ [C], FpOk X pins H4 b := fun b hb => by rw [List.mem_singleton.mp hb]; exact fC
  exact ⟨_, H4, I8.unpinned.turns (t' := s6.toks) (fun b o hb eo => (hs'.2 b (fun z => hb (List.mem_singleton.mpr z))).trans eo) fC', q⟩
end
end L2


set_option linter.all false
set_option maxRecDepth 100000
set_option maxHeartbeats 4000000
namespace L2
open PySem PySem.Spec PyProof.Rows
theorem mulOk_small {x : Str} {n : Int} (h1 : x.length ≤ 1000) (h2 : -1000 ≤ n) (h3 : n ≤ 1000) : MulOk x n := by
  refine ⟨?_, fun hn _ => ?_, fun hn _ => ?_⟩
  · rw [Bool.or_eq_false_iff]
    exact ⟨decide_eq_false (by omega), decide_eq_false (by omega)⟩
  · intro hgt
    have hn' : 0 < n := by omega
    have h4 := (Int.ediv_lt_iff_lt_mul hn').mp hgt
    have h5 : (x.length : Int) * n ≤ 1000 * 1000 := Int.mul_le_mul (by omega) h3 (by omega) (by omega)
    omega
  · show decide (x.length * n.toNat > sizeLine) = false
    refine decide_eq_false ?_
    have h5 : x.length * n.toNat ≤ 1000 * 1000 := Nat.mul_le_mul h1 (by omega)
    rw [sizeLine_eq]
    omega
theorem op_mul_str {X : Cx} : OpR X (binaryOp .Mult) (fun x y H Q => ∃ i n, x = .str i ∧ y = .int n ∧ i.length ≤ 1000 ∧ -1000 ≤ n ∧ n ≤ 1000 ∧ Q (.str (Txt.mul i n)) H) := by
  intro pins s σ H x y v u Q I rx ry h
  obtain ⟨i, n, rfl, rfl, h1, h2, h3, q⟩ := h
  obtain ⟨t, rfl⟩ := rx
  obtain ⟨t', rfl⟩ := ry
  exact SB.mul (mulOk_small h1 h2 h3) fun t' k => ⟨.str _, H, I.tok _, ⟨_, rfl⟩, q⟩
theorem atI_some {α : Type} {xs : List α} {i : Int} (h0 : 0 ≤ i) (h1 : i < xs.length) : ∃ v, atI xs i = some v ∧ v ∈ xs := by
  have hj : i.toNat < xs.length := by omega
  have e : ((i.toNat : Nat) : Int) = i := by omega
  refine ⟨xs[i.toNat], ?_, List.getElem_mem hj⟩
  have h := atI_nat (xs := xs) (j := i.toNat) (v := xs[i.toNat]) (by simp [hj])
  rw [e] at h
  exact h
theorem slen (a b : Str) : (a ++ b).length = a.length + b.length := by
  show (a ++ b).cps.size = a.cps.size + b.cps.size
  exact Array.size_append ..
theorem cut_ints (ns : List Int) (lo hi : Option Int) : ∃ cs : List Int, cutV (ns.map V.int) lo hi = cs.map V.int ∧ cs.length ≤ ns.length := by
  refine ⟨(ns.drop (HT.sIx (ns.map V.int).length 0 lo)).take (HT.sIx (ns.map V.int).length (ns.map V.int).length hi - HT.sIx (ns.map V.int).length 0 lo), ?_, ?_⟩
  · unfold cutV
    rw [List.map_take, List.map_drop]
  · rw [List.length_take, List.length_drop]
    omega
theorem in62 {x : Int} (h1 : 0 ≤ x) (h2 : x ≤ 1000) : (-(2 ^ 62) : Int) ≤ x ∧ x < 2 ^ 62 := ⟨Int.le_trans (by decide) h1, Int.lt_of_le_of_lt h2 (by decide)⟩
theorem only_plain {H : Hp} (h : Only H) : Plain H := fun a o e => by
  rcases h a with z | ⟨ob, xs, z⟩
  · rw [e] at z; cases z
  · rw [e] at z; cases z; rfl

end L2


set_option linter.all false
set_option maxRecDepth 100000
set_option maxHeartbeats 4000000
namespace L2
open PySem PySem.Spec PyProof.Rows
def notStar : Expr → Bool
  | .Starred _ _ => false
  | _ => true
theorem star_cons {e : Expr} {es : List Expr} {env : Env} (h : notStar e = true) : starEach (e :: es) env = (false, eval e env) :: starEach es env := by
  cases e <;> first | rfl | cases h

theorem pa_cs {X : Cx} {e : Expr} {es : List Expr} {te : TE} {t : TA} (ha : PE X e te) (hr : PA X es t) (h : notStar e = true := by rfl) : PA X (e :: es) (tCons te t) := pa_cons ha hr (star_cons h)

section
variable {X : Cx}

end
end L2


set_option linter.all false
namespace FR
open PySem L2
structure QSs (X : Cx) (st : List Stmt) (t : TS) : Prop where h : PSs X st t
structure QS (X : Cx) (st : Stmt) (t : TS) : Prop where h : PS X st t
theorem qss_cons {X : Cx} {st : Stmt} {rest : List Stmt} {t u : TS} (h1 : QS X st t) (h2 : QSs X rest u) : QSs X (st :: rest) (tSeq t u) := ⟨pss_cons h1.h h2.h⟩
theorem qss_one {X : Cx} {st : Stmt} {t : TS} (h1 : QS X st t) : QSs X [st] t := ⟨pss_one h1.h⟩
structure QE (X : Cx) (e : Expr) (t : TE) : Prop where h : PE X e t
structure QA (X : Cx) (es : List Expr) (t : TA) : Prop where h : PA X es t
theorem qe_int {X : Cx} {i j pos} : QE X (.Constant (.int i) j pos) (tC (.int i)) := ⟨pe_int⟩
theorem qs_set {X : Cx} {i : Nat} {x : Str} {e : Expr} {te : TE} {pos pos' : Pos} (hN : X.N.Nodup) (hi : X.N[i]? = some x) (hx : Loc X.env.scope x) (he : QE X e te) (hs : swapsWith e (some (.Name x pos')) pos.line X.env = pure false := by rfl) (hf : X.fn x = true ∨ X.env.scope.names.lookup x = some .local := by first | exact .inl rfl | exact .inr rfl | assumption) :
    QS X (.Assign [.Name x pos'] e pos) (tAsg te (gName i)) := ⟨ps_set hN hi hx he.h hs hf⟩
theorem qex {X : Cx} {st : List Stmt} {q : TS → Prop} (h : ∃ t, QSs X st t ∧ q t) : ∃ t, PSs X st t ∧ q t := let ⟨t, a, b⟩ := h; ⟨t, a.h, b⟩
end FR


set_option linter.all false
set_option maxRecDepth 100000
set_option maxHeartbeats 4000000
namespace L2
open PySem PySem.Spec PyProof.Rows

structure Mk0 (K : PySem.W.Frag) (C : Addr) : Prop where
  makes : PySem.W.makesIn K C = true
  init : PySem.W.findIn K (.ref C) "__init__" = some (some (.builtin "object.__init__"))
  kp : PySem.W.keepIn K (.ref C) = true
section
variable {X : Cx} {C : Addr} {x : Str} {p pos : Pos}
end

structure UsedM (P : Program) (w : World) (K : PySem.W.Frag) (mg : Str → Option Value) (CX : CXT) (k : Nat) (C : Addr) (m : Str) (ps : List Str) (sp : Sp) : Prop where
  ok : ∃ f fd, (∀ base, FnOk P w K mg base CX k f fd ps sp) ∧ Meth K C m f ∧ Binds K fd ps []

structure UsedI (P : Program) (w : World) (K : PySem.W.Frag) (mg : Str → Option Value) (CX : CXT) (k : Nat) (C : Addr) (ps : List Str) (sp : Sp) : Prop where
  ok : ∃ f fd, (∀ base, FnOk P w K mg base CX k f fd ps sp) ∧ Mk K C f ∧ Binds K fd ps []

theorem pe_fldK (K : PySem.W.Frag) {X : Cx} (hK : X.K = K) {e : Expr} {f : Str} {pos : Pos} {ta : TE} (he : PE X e ta) (hb : attributeBase e f X.env (eval e X.env) = eval e X.env) : PE X (.Attribute e f pos) (tFld K ta f) := by subst hK; exact pe_fld he hb
theorem ps_fldK (K : PySem.W.Frag) {X : Cx} (hK : X.K = K) {o value : Expr} {f : Str} {pos pos' : Pos} {ta tv : TE} (ha : PE X o ta) (hv : PE X value tv) (hs : swapsWith value (some (.Attribute o f pos')) pos.line X.env = pure false) : PS X (.Assign [.Attribute o f pos'] value pos) (sFld K ta tv f) := by subst hK; exact ps_fld ha hv hs
end L2


set_option linter.all false
set_option maxRecDepth 100000
set_option maxHeartbeats 4000000
namespace L2
open PySem PySem.Spec PyProof.Rows
section
variable {X : Cx}
end

end L2


set_option linter.all false
set_option maxRecDepth 100000
set_option maxHeartbeats 4000000
namespace L2
open PySem PySem.Spec PyProof.Rows
section
variable {X : Cx}
theorem vals_int : ∀ {bs : List Int} {us : List Value} {i : Nat} {v : Value}, Vals (bs.map V.int) us → us[i]? = some v → ∃ b t, bs[i]? = some b ∧ v = .int b t := by
  intro bs us i v r e
  cases e2 : (bs.map V.int)[i]? with
  | none =>
    have := r.none_of e2
    rw [this] at e; cases e
  | some x =>
    obtain ⟨u, hu, ru⟩ := r.get e2
    rw [hu] at e; cases e
    rw [List.getElem?_map] at e2
    cases e3 : bs[i]? with
    | none => rw [e3] at e2; cases e2
    | some b =>
      rw [e3] at e2
      have e4 : V.int b = x := Option.some.inj e2
      subst e4
      obtain ⟨t, ht⟩ := ru
      exact ⟨b, t, rfl, ht⟩
theorem preSum_take (ns : List Int) : ∀ k, k ≤ ns.length → preSum (fun i => (ns[i]?).getD 0) k = (ns.take k).sum
  | 0, _ => by simp [preSum]
  | k + 1, h => by
    have ih := preSum_take ns k (by omega)
    have e : ns[k]? = some ns[k] := List.getElem?_eq_getElem (by omega)
    show preSum (fun i => (ns[i]?).getD 0) k + (ns[k]?).getD 0 = _
    rw [ih, List.take_add_one, e, List.sum_append]
    simp
theorem call_sum (hc : X.calm = true) : CallR X (.builtin "sum") (fun xs H Q => ∃ (p : Addr) (ns : List Int), xs = [.ref p] ∧ SqL X.K H p (ns.map V.int) ∧ Q (.int ns.sum) H) := by
  intro pins s σ H xs us Q I r h
  obtain ⟨p, ns, rfl, hq, q⟩ := h
  obtain ⟨u, rfl, rx⟩ := vals1 r
  cases rx
  obtain ⟨its, rv, pl, hz⟩ := I.list hq
  have hl := pl.isList
  have hlt : p < s.heap.objs.size := by obtain ⟨_, e, _⟩ := hl; exact Heap.lt_size e
  have hlen : ns.length = its.length := by have := rv.length; rwa [List.length_map] at this
  refine call_sum_walkG (wpAny_pyIter_list hl ?_)
  refine ⟨s.heap.objs.size, [s.heap.objs.size, p], [s.heap.objs.size], its.toArray.size, _, _, fun i => (ns[i]?).getD 0, rfl, Walks.list (A := X.A.in1) (I.ok.hd hc) _ p (Nat.ne_of_lt hlt) its.toArray,
    ⟨⟨_, Heap.get?_push_size _ rfl, rfl, rfl⟩, hl.push _⟩, ?_, fun i v hP => ?_, fun h' tk t' hk => ?_⟩
  · intro b hb
    simp only [List.mem_cons, List.not_mem_nil, or_false] at hb
    show b < (s.heap.push _).objs.size
    rw [Heap.size_push]
    rcases hb with rfl | rfl
    · exact Nat.lt_succ_self _
    · exact Nat.lt_succ_of_lt hlt
  · obtain ⟨b, t, eb, rfl⟩ := vals_int rv (i := i) (v := v) (by simpa using hP)
    exact ⟨t, by show Value.int b t = Value.int ((ns[i]?).getD 0) t; rw [eb]; rfl⟩
  · have e : preSum (fun i => (ns[i]?).getD 0) its.toArray.size = ns.sum := by
      rw [List.size_toArray, ← hlen, preSum_take ns _ (Nat.le_refl _), List.take_length]
    rw [e]
    exact ⟨.int ns.sum, H, I.kept (t' := tk) fun b o eb => hk b o (fun z => by rw [List.mem_singleton.mp z] at eb; exact Nat.lt_irrefl _ (Heap.lt_size eb)) (Heap.get?_push_of_some _ eb), ⟨t', rfl⟩, q⟩
end
end L2


set_option linter.all false
set_option maxRecDepth 100000
set_option maxHeartbeats 4000000
namespace L2
open PySem PySem.Spec PyProof.Rows
section
open PySem.W
variable {K : PySem.W.Frag} {M : Model}
end

structure Lands (X : Cx) (pins : List (Addr × Obj)) (σ : St) (H : Hp) (e : Addr) (cls : Value) (s : Shared) : Prop where
  I : Inv X pins σ H s
  new : H e = none
  fly : ∃ (B : Heap) (a0 : Value), Heap.FlyingW B X.stack e cls a0 s.heap ∧ (∀ b u, H b = some u → ∃ o, B.get? b = some o) ∧ (∀ b o, X.s₀.heap.get? b = some o → b ∉ frs X.stack → b ∉ X.ex → ∃ o', B.get? b = some o') ∧ (∀ p ∈ X.pn ++ pins, ∃ o', B.get? p.1 = some o')
section
variable {X : Cx}

theorem Lands.push {pins : List (Addr × Obj)} {s : Shared} {σ : St} {H : Hp} {e : Addr} {cls : Value} (L : Lands X pins σ H e cls s) (ob : Obj) : Lands X pins σ H e cls { s with heap := s.heap.push ob } := by
  obtain ⟨B, a0, fl, tr, old, pn⟩ := L.fly
  have k : ∀ b o, s.heap.get? b = some o → (s.heap.push ob).get? b = some o := fun b o e => Heap.get?_push_of_some _ e
  exact ⟨L.I.kept (t' := s.toks) k, L.new, B, a0, PySem.W.flying_keeps fl k, tr, old, pn⟩

end
end L2


set_option linter.all false
set_option maxRecDepth 100000
set_option maxHeartbeats 4000000
namespace L2
open PySem PySem.Spec PyProof.Rows
section
variable {X : Cx}

end

theorem comp_fm {α : Type} {J : It} {item : Nat → V → Hp → Prop} {tc : TT} {te : TE} {Q : VK} {H : Hp} {l : Addr} {τ : St} {g : TG} (ds : List α) (f : α → Option V) (hJ : GivesG J ds.length H item) (hp : Plain H)
    (hl : H l = none) (hz : ds.length ≤ sizeLine) (keep : St → Prop) (hk0 : keep τ)
    (ht : ∀ (τ' : St) (k : Nat) (d : α) (x : V) (H' : Hp) (Q1 : St → VK) (Q2 : St → Hp → Prop), keep τ' → ds[k]? = some d → item k x H' → Same H H' → Plain H' → (∀ y τ4 H6, keep τ4 → Same H' H6 → Plain H6 → f d = some y → Q1 τ4 y H6) → (∀ τ4 H6, keep τ4 → Same H' H6 → Plain H6 → f d = none → Q2 τ4 H6) →
      g x τ' H' fun τ4 H4 => tc τ4 H4 fun b H5 => if b = true then te τ4 H5 (Q1 τ4) else Q2 τ4 H5)
    (hq : ∀ H', Same H H' → Plain H' → H' l = some (.lst (ds.filterMap f)) → Q (.ref l) H') : CompOk J g tc te Q l τ H := by
  refine comp_by ds.length (fun i ys τ' H2 => i ≤ ds.length ∧ ys = (ds.take i).filterMap f ∧ keep τ' ∧ Same H H2 ∧ Plain H2 ∧ H2 l = some (.lst ys)) ⟨Nat.zero_le _, rfl, hk0, Same.upd hl, hp.upd rfl, upd_same⟩ ?_ ?_
  · rintro i ys τ' H2 N hlt ⟨hi, rfl, hk, hs, hp2, hll⟩ hN
    obtain ⟨hgo, _⟩ := hJ i _ hs hp2
    obtain ⟨h1, h2⟩ := hgo hlt
    refine ⟨h1, fun x H3 hy => ?_⟩
    obtain ⟨s3, p3, it⟩ := h2 x H3 hy
    have e : ds[i]? = some ds[i] := List.getElem?_eq_getElem hlt
    have et : (ds.take (i + 1)).filterMap f = (ds.take i).filterMap f ++ (f ds[i]).toList := by
      rw [List.take_add_one, e, List.filterMap_append]
      have : (some ds[i]).toList.filterMap f = (f ds[i]).toList := by
        cases hf : f ds[i] with
        | none => simp [hf]
        | some y => simp [hf]
      rw [this]
    have hlen : ((ds.take i).filterMap f).length ≤ i := Nat.le_trans (List.length_filterMap_le ..) (by rw [List.length_take]; omega)
    refine ht τ' i ds[i] x H3 (fun τ4 y H6 => H6 l = some (.lst ((ds.take i).filterMap f)) ∧ ((ds.take i).filterMap f).length < sizeLine ∧ N ((ds.take i).filterMap f ++ [y]) τ4 (upd H6 l (.lst ((ds.take i).filterMap f ++ [y]))))
      (fun τ4 H5 => N ((ds.take i).filterMap f) τ4 H5) hk e it (hs.trans s3) p3 (fun y τ4 H6 k4 s6 p6 ef => ?_) fun τ4 H6 k4 s6 p6 ef => ?_
    · rw [ef] at et
      have hl6 : H6 l = some (.lst ((ds.take i).filterMap f)) := s6 _ _ (s3 _ _ hll)
      exact ⟨hl6, by omega, hN _ _ _ ⟨hlt, et.symm, k4, ((hs.trans s3).trans s6).put hl, p6.upd rfl, upd_same⟩⟩
    · rw [ef] at et
      have et : (ds.take (i + 1)).filterMap f = (ds.take i).filterMap f := by rw [et]; exact List.append_nil _
      exact hN _ _ _ ⟨hlt, et.symm, k4, (hs.trans s3).trans s6, p6, s6 _ _ (s3 _ _ hll)⟩
  · rintro ys τ' H2 ⟨_, rfl, _, hs, hp2, hll⟩
    rw [List.take_length] at hll
    exact ⟨(hJ ds.length _ hs hp2).2, hq _ hs hp2 hll⟩
end L2


set_option linter.all false
set_option maxRecDepth 100000
set_option maxHeartbeats 4000000
namespace L2
open PySem PySem.Spec PyProof.Rows
section
variable {X : Cx}

end
end L2


set_option linter.all false
set_option maxRecDepth 100000
set_option maxHeartbeats 4000000
namespace FR
open PySem L2
def good (c : Nat) : Bool := decide (32 ≤ c) && decide (c ≤ 126) && !decide (c = 37)
def letter (c : Nat) : Bool := decide (65 ≤ c) && decide (c ≤ 90)
def isSignS (z : Str) : Bool := z.cps.size == 2 && z.cps[0]? == some 39 && good (z.cps.getD 1 0)
def isNameS (z : Str) : Bool := decide (1 ≤ z.cps.size) && decide (z.cps.size ≤ 8) && z.cps.toList.all letter
def isTextS (z : Str) : Bool := decide (z.cps.size ≤ 60) && z.cps.toList.all good
def isSignD : D → Bool
  | .str z => isSignS z
  | _ => false
def isNameD : D → Bool
  | .str z => isNameS z
  | _ => false
def isPartD (d : D) : Bool := isSignD d || isNameD d
def isTextD : D → Bool
  | .str z => isTextS z
  | _ => false
def isWholeD : D → Bool
  | .int _ => true
  | _ => false
def isWorthD : D → Bool
  | .int i => decide (0 ≤ i) && decide (i ≤ 10 ^ 60)
  | _ => false
def arePartsD : D → Bool
  | .tup ds => decide (ds.length ≤ 6) && ds.all isPartD
  | _ => false
def isRuleD : D → Bool
  | .tup [h, p, w] => isNameD h && (arePartsD p && isWorthD w)
  | _ => false
def isGramD : D → Bool
  | .lst ds => decide (ds.length ≤ 60) && ds.all isRuleD
  | _ => false
mutual
def _root_.L2.D.short : D → Bool
  | .str z => decide (z.length ≤ 1000)
  | .lst ds => shortS ds
  | .tup ds => shortS ds
  | _ => true
def shortS : List D → Bool
  | [] => true
  | d :: ds => d.short && shortS ds
end
theorem shortS_mem : ∀ {xs : List D} {d : D}, shortS xs = true → d ∈ xs → d.short = true
  | x :: xs, d, h, hd => by
    unfold shortS at h
    rw [Bool.and_eq_true] at h
    rcases List.mem_cons.mp hd with rfl | hd
    · exact h.1
    · exact shortS_mem h.2 hd
theorem shortS_of : ∀ {xs : List D}, (∀ d ∈ xs, d.short = true) → shortS xs = true
  | [], _ => by unfold shortS; rfl
  | x :: xs, h => by unfold shortS; rw [h x List.mem_cons_self, shortS_of fun d hd => h d (List.mem_cons_of_mem _ hd)]; rfl
theorem short_str {z : Str} (h : z.length ≤ 1000) : (D.str z).short = true := by unfold D.short; exact decide_eq_true h
theorem short_len {z : Str} (h : (D.str z).short = true) : z.length ≤ 1000 := by unfold D.short at h; exact of_decide_eq_true h
theorem line1000 {n : Nat} (h : n ≤ 1000) : n ≤ sizeLine := Nat.le_trans h (by rw [sizeLine_eq]; decide)
theorem short_line {z : Str} (h : (D.str z).short = true) : z.length ≤ sizeLine := line1000 (short_len h)
def isStrD : D → Bool | .str _ => true | _ => false
def isListD : D → Bool | .lst _ => true | _ => false
def isTupD : D → Bool | .tup _ => true | _ => false
def isBoolD : D → Bool | .bl _ => true | _ => false
def isIntD : D → Bool | .int _ => true | .bl _ => true | _ => false
section
variable {K : PySem.W.Frag}
theorem kit_int (d : D) : PySem.W.kitOne K (.type (tyD d)) (.type "int") = some (isIntD d) := by cases d <;> kernel_rfl
theorem kit_bool (d : D) : PySem.W.kitOne K (.type (tyD d)) (.type "bool") = some (isBoolD d) := by cases d <;> kernel_rfl
theorem kit_str (d : D) : PySem.W.kitOne K (.type (tyD d)) (.type "str") = some (isStrD d) := by cases d <;> kernel_rfl
theorem kit_list (d : D) : PySem.W.kitOne K (.type (tyD d)) (.type "list") = some (isListD d) := by cases d <;> kernel_rfl
theorem kit_tuple (d : D) : PySem.W.kitOne K (.type (tyD d)) (.type "tuple") = some (isTupD d) := by cases d <;> kernel_rfl
end
theorem size_len (z : Str) : z.length = z.cps.size := rfl
theorem le_A (c : Nat) : (!decide (([c] : List Nat) < (("A" : Str)).cps.toList)) = decide (65 ≤ c) := by
  have e : (("A" : Str)).cps.toList = [65] := by decide +kernel
  rw [e]
  by_cases h : 65 ≤ c
  · rw [decide_eq_true h, decide_eq_false (by rw [List.cons_lt_cons_iff]; simp; omega)]; rfl
  · rw [decide_eq_false h, decide_eq_true (by rw [List.cons_lt_cons_iff]; left; omega)]; rfl
theorem le_Z (c : Nat) : (!decide ((("Z" : Str)).cps.toList < ([c] : List Nat))) = decide (c ≤ 90) := by
  have e : (("Z" : Str)).cps.toList = [90] := by decide +kernel
  rw [e]
  by_cases h : c ≤ 90
  · rw [decide_eq_true h, decide_eq_false (by rw [List.cons_lt_cons_iff]; simp; omega)]; rfl
  · rw [decide_eq_false h, decide_eq_true (by rw [List.cons_lt_cons_iff]; left; omega)]; rfl
theorem map_bl (g : Nat → Bool) (l : List Nat) : l.map (fun c => V.bl (g c)) = (l.map g).map V.bl := by rw [List.map_map]; rfl
theorem all_map_id {α : Type} (g : α → Bool) (l : List α) : (l.map g).all id = l.all g := by rw [List.all_map]; rfl

theorem bls_of {ys : List V} {ds : List D} {g : D → Bool} (hl : ys.length = ds.length) (h : ∀ (k : Nat) (y : V), ys[k]? = some y → ∃ d, ds[k]? = some d ∧ y = .bl (g d)) : ys = (ds.map g).map V.bl := by
  refine List.ext_getElem? fun k => ?_
  by_cases hk : k < ys.length
  · obtain ⟨d, hd, hy⟩ := h k ys[k] (List.getElem?_eq_getElem hk)
    rw [List.getElem?_eq_getElem hk, List.getElem?_map, List.getElem?_map, hd, hy]
    rfl
  · rw [List.getElem?_eq_none (by omega), List.getElem?_eq_none (by rw [List.length_map, List.length_map]; omega)]
theorem and_read {te : TE} {σ : St} {H : Hp} {R : VK} {b g : Bool} (ht : b = true → ∀ R : VK, R (.bl g) H → te σ H R) (h : R (.bl (b && g)) H) : if b = true then te σ H R else R (.bl false) H := by
  cases b with
  | true => exact ht rfl R h
  | false => exact h
theorem or_read {te : TE} {σ : St} {H : Hp} {R : VK} {b g : Bool} (ht : b = false → ∀ R : VK, R (.bl g) H → te σ H R) (h : R (.bl (b || g)) H) : if b = true then R (.bl true) H else te σ H R := by
  cases b with
  | true => exact h
  | false => exact ht rfl R h
def spIs (g : D → Bool) : Sp := fun vs H Q _ => ∃ x d, vs = [x] ∧ Den H x d ∧ d.short = true ∧ Plain H ∧ Q (.bl (g d)) H
def spStands : Sp := fun vs H Q _ => ∃ c, vs = [.str ⟨#[c]⟩] ∧ Q (.bl (good c)) H
def spChecked (C : Addr) : Sp := fun vs H Q E => ∃ x d, vs = [x] ∧ Den H x d ∧ d.short = true ∧ Plain H ∧
  (isGramD d = true → ∀ (l : Addr) (xs : List V) (ds : List D), d = .lst ds → Dens H xs ds → H l = none → Q (.ref l) (upd H l (.lst xs))) ∧ (isGramD d = false → E (.ref C) none H)
theorem bool_false {b : Bool} (h : (!b) = true) : b = false := by cases b <;> first | rfl | cases h
theorem bool_true {b : Bool} (h : ¬ (!b) = true) : b = true := by cases b <;> first | rfl | exact absurd rfl h
def spCheckedT (C : Addr) : Sp := fun vs H Q E => ∃ x d, vs = [x] ∧ Den H x d ∧ d.short = true ∧ Plain H ∧ (∀ z, d = .str z → isTextS z = true → Q (.str z) H) ∧ (isTextD d = false → E (.ref C) none H)
end FR


set_option linter.all false
set_option maxRecDepth 100000
set_option maxHeartbeats 4000000
namespace FR
open PySem L2
abbrev Rule := Str × List Str × Int
abbrev Gram := List Rule
def ruleD (r : Rule) : D := .tup [.str r.1, .tup (r.2.1.map D.str), .int r.2.2]
def gramD (g : Gram) : D := .lst (g.map ruleD)
def isPartS (z : Str) : Bool := isSignS z || isNameS z
def okRule (r : Rule) : Bool := isNameS r.1 && ((decide (r.2.1.length ≤ 6) && r.2.1.all isPartS) && (decide (0 ≤ r.2.2) && decide (r.2.2 ≤ 10 ^ 60)))
def okGram (g : Gram) : Bool := decide (g.length ≤ 60) && g.all okRule
theorem isRuleD_ruleD (r : Rule) : isRuleD (ruleD r) = okRule r := by
  obtain ⟨h, ps, w⟩ := r
  show (isNameD (.str h) && (arePartsD (.tup (ps.map D.str)) && isWorthD (.int w))) = _
  show (isNameS h && ((decide ((ps.map D.str).length ≤ 6) && (ps.map D.str).all isPartD) && (decide (0 ≤ w) && decide (w ≤ 10 ^ 60)))) = _
  rw [List.length_map, List.all_map]
  rfl
theorem isGramD_gramD (g : Gram) : isGramD (gramD g) = okGram g := by
  show (decide ((g.map ruleD).length ≤ 60) && (g.map ruleD).all isRuleD) = _
  rw [List.length_map, List.all_map]
  unfold okGram
  congr 1
  congr 1
  funext r
  exact isRuleD_ruleD r
theorem strs_of : ∀ {ds : List D}, ds.all isPartD = true → ∃ ps : List Str, ds = ps.map D.str
  | [], _ => ⟨[], rfl⟩
  | d :: ds, h => by
    rw [List.all_cons, Bool.and_eq_true] at h
    obtain ⟨ps, rfl⟩ := strs_of h.2
    cases d with
    | str z => exact ⟨z :: ps, rfl⟩
    | _ => cases h.1
theorem rule_of {d : D} (h : isRuleD d = true) : ∃ r : Rule, d = ruleD r := by
  unfold isRuleD at h
  split at h
  · rename_i a b c
    rw [Bool.and_eq_true, Bool.and_eq_true] at h
    obtain ⟨h1, h2, h3⟩ := h
    cases a with
    | str z =>
      cases b with
      | tup ds =>
        cases c with
        | int w =>
          unfold arePartsD at h2
          rw [Bool.and_eq_true] at h2
          obtain ⟨ps, rfl⟩ := strs_of h2.2
          exact ⟨(z, ps, w), rfl⟩
        | _ => cases h3
      | _ => cases h2
    | _ => cases h1
  · cases h
theorem gram_of {d : D} (h : isGramD d = true) : ∃ g : Gram, d = gramD g ∧ okGram g = true := by
  cases d with
  | lst ds =>
    have h0 := h
    unfold isGramD at h
    rw [Bool.and_eq_true] at h
    have go : ∀ (ds : List D), ds.all isRuleD = true → ∃ g : Gram, ds = g.map ruleD := by
      intro ds
      induction ds with
      | nil => exact fun _ => ⟨[], rfl⟩
      | cons d ds ih =>
        intro hd
        rw [List.all_cons, Bool.and_eq_true] at hd
        obtain ⟨g, rfl⟩ := ih hd.2
        obtain ⟨r, rfl⟩ := rule_of hd.1
        exact ⟨r :: g, rfl⟩
    obtain ⟨g, rfl⟩ := go ds h.2
    refine ⟨g, rfl, ?_⟩
    rw [← isGramD_gramD]
    exact h0
  | _ => cases h
theorem den_rule {H : Hp} {v : V} {r : Rule} (h : Den H v (ruleD r)) : ∃ t p, v = .ref t ∧ H t = some (.tup [.str r.1, .ref p, .int r.2.2]) ∧ H p = some (.tup (r.2.1.map V.str)) := by
  obtain ⟨t, xs, rfl, ht, hds⟩ := h.to_tup
  match xs, hds with
  | [x0, x1, x2], hds =>
    obtain ⟨_, e0, n0⟩ := hds.get (i := 0) (v := x0) rfl
    obtain ⟨_, e1, n1⟩ := hds.get (i := 1) (v := x1) rfl
    obtain ⟨_, e2, n2⟩ := hds.get (i := 2) (v := x2) rfl
    cases e0
    cases e1
    cases e2
    have f0 := n0.to_str
    have f2 := n2.to_int
    obtain ⟨p, ys, f1, hp, hys⟩ := n1.to_tup
    subst f0 f1 f2
    refine ⟨t, p, rfl, ht, ?_⟩
    have : ys = r.2.1.map V.str := by
      refine List.ext_getElem? fun i => ?_
      cases e : ys[i]? with
      | none =>
        have h1 := List.getElem?_eq_none_iff.mp e
        have h2 := hys.len
        rw [List.length_map] at h2
        rw [List.getElem?_eq_none (by rw [List.length_map]; omega)]
      | some y =>
        obtain ⟨d, hd, dn⟩ := hys.get e
        rw [List.getElem?_map] at hd ⊢
        cases e2 : r.2.1[i]? with
        | none => rw [e2] at hd; cases hd
        | some z =>
          rw [e2] at hd
          cases hd
          rw [dn.to_str]
          rfl
    rw [hp, this]
  | [], h => exact absurd h.len (by simp)
  | [_], h => exact absurd h.len (by simp)
  | [_, _], h => exact absurd h.len (by simp)
  | _ :: _ :: _ :: _ :: _, h => exact absurd h.len (by simp)
theorem den_gram {H : Hp} {v : V} {g : Gram} (h : Den H v (gramD g)) : ∃ a xs, v = .ref a ∧ Rd H a (.lst xs) ∧ Dens H xs (g.map ruleD) := h.to_lst

theorem rule_at {H : Hp} {xs : List V} {g : Gram} (h : Dens H xs (g.map ruleD)) {i : Nat} {v : V} (e : xs[i]? = some v) :
    ∃ r t p, g[i]? = some r ∧ v = .ref t ∧ H t = some (.tup [.str r.1, .ref p, .int r.2.2]) ∧ H p = some (.tup (r.2.1.map V.str)) := by
  obtain ⟨d, hd, dn⟩ := h.get e
  rw [List.getElem?_map] at hd
  cases e2 : g[i]? with
  | none => rw [e2] at hd; cases hd
  | some r =>
    rw [e2] at hd
    cases hd
    obtain ⟨t, p, e3, e4, e5⟩ := den_rule dn
    exact ⟨r, t, p, rfl, e3, e4, e5⟩
def hstep (hs : List Str) (h : Str) : List Str := if h ∈ hs then hs else hs ++ [h]
end FR


set_option linter.all false
set_option maxRecDepth 100000
set_option maxHeartbeats 4000000
namespace FR
open PySem L2
theorem depS_bound : ∀ {xs : List D} {n : Nat}, (∀ d ∈ xs, d.dep ≤ n) → depS xs ≤ n
  | [], n, _ => by unfold depS; exact Nat.zero_le _
  | x :: xs, n, h => by
    unfold depS
    exact Nat.max_le.mpr ⟨h x List.mem_cons_self, depS_bound fun d hd => h d (List.mem_cons_of_mem _ hd)⟩
theorem ok_lst {xs : List D} (h : ∀ d ∈ xs, d.ok = true) : (D.lst xs).ok = true := by unfold D.ok; exact okS_of h
theorem ok_str (z : Str) : (D.str z).ok = true := by unfold D.ok; rfl
theorem dep_lst {xs : List D} {n : Nat} (h : ∀ d ∈ xs, d.dep ≤ n) : (D.lst xs).dep ≤ n + 1 := by unfold D.dep; exact Nat.succ_le_succ (depS_bound h)
theorem dep_str (z : Str) : (D.str z).dep = 0 := by unfold D.dep; rfl
theorem ok_strs (zs : List Str) : (D.lst (zs.map D.str)).ok = true := ok_lst fun d hd => by
  obtain ⟨z, _, rfl⟩ := List.mem_map.mp hd
  exact ok_str z
theorem dep_strs (zs : List Str) : (D.lst (zs.map D.str)).dep ≤ 64 := Nat.le_trans (dep_lst (n := 0) fun d hd => by
  obtain ⟨z, _, rfl⟩ := List.mem_map.mp hd
  rw [dep_str]; exact Nat.le_refl _) (by decide)
theorem name_len8 {z : Str} (h : isNameS z = true) : z.length ≤ 8 := by
  unfold isNameS at h
  rw [Bool.and_eq_true, Bool.and_eq_true] at h
  exact of_decide_eq_true h.1.2
theorem part_len {z : Str} (h : isPartS z = true) : z.length ≤ 8 := by
  unfold isPartS at h
  rw [Bool.or_eq_true] at h
  rcases h with h | h
  · unfold isSignS at h
    rw [Bool.and_eq_true, Bool.and_eq_true, beq_iff_eq] at h
    show z.cps.size ≤ 8
    omega
  · exact name_len8 h
theorem short_rule {r : Rule} (h : okRule r = true) : (ruleD r).short = true := by
  unfold okRule at h
  simp only [Bool.and_eq_true] at h
  obtain ⟨h1, ⟨h2, h3⟩, h4⟩ := h
  unfold ruleD D.short
  refine shortS_of fun d hd => ?_
  simp only [List.mem_cons, List.not_mem_nil, or_false] at hd
  rcases hd with rfl | rfl | rfl
  · exact short_str (Nat.le_trans (name_len8 h1) (by decide))
  · unfold D.short
    refine shortS_of fun d hd => ?_
    obtain ⟨z, hz, rfl⟩ := List.mem_map.mp hd
    exact short_str (Nat.le_trans (part_len (List.all_eq_true.mp h3 z hz)) (by decide))
  · unfold D.short; rfl
theorem short_gram {g : Gram} (h : okGram g = true) : (gramD g).short = true := by
  unfold okGram at h
  rw [Bool.and_eq_true] at h
  unfold gramD D.short
  refine shortS_of fun d hd => ?_
  obtain ⟨r, hr, rfl⟩ := List.mem_map.mp hd
  exact short_rule (List.all_eq_true.mp h.2 r hr)
theorem gram_60 {g : Gram} (h : okGram g = true) : g.length ≤ 60 := by
  unfold okGram at h
  rw [Bool.and_eq_true] at h
  exact of_decide_eq_true h.1
theorem str_inj : ∀ {a b : List Str}, a.map D.str = b.map D.str → a = b
  | [], [], _ => rfl
  | [], _ :: _, h => by cases h
  | _ :: _, [], h => by cases h
  | x :: a, y :: b, h => by
    rw [List.map_cons, List.map_cons] at h
    injection h with h1 h2
    injection h1 with h3
    rw [h3, str_inj h2]
theorem ruleD_inj {r r' : Rule} (h : ruleD r = ruleD r') : r = r' := by
  obtain ⟨a, b, c⟩ := r
  obtain ⟨a', b', c'⟩ := r'
  unfold ruleD at h
  injection h with h
  injection h with h1 h2
  injection h2 with h2 h3
  injection h3 with h3 _
  injection h1 with h1
  injection h2 with h2
  injection h3 with h3
  have h1' : a = a' := h1
  have h3' : c = c' := h3
  have h2' : b = b' := str_inj h2
  rw [h1', h2', h3']
theorem gramD_inj {g g' : Gram} (h : gramD g = gramD g') : g = g' := by
  unfold gramD at h
  injection h with h
  induction g generalizing g' with
  | nil =>
    cases g' with
    | nil => rfl
    | cons _ _ => cases h
  | cons r g ih =>
    cases g' with
    | nil => cases h
    | cons r' g' =>
      rw [List.map_cons, List.map_cons] at h
      injection h with h1 h2
      rw [ruleD_inj h1, ih h2]
end FR


set_option linter.all false
set_option maxRecDepth 100000
set_option maxHeartbeats 4000000
namespace FR
open PySem L2
def spCell (K : PySem.W.Frag) : Sp := fun vs H Q _ => ∃ (a : Addr) (ns : List Int) (k : Int), vs = [.ref a, .int k] ∧ SqL K H a (ns.map V.int) ∧ 0 ≤ k ∧ ∀ v : Int, Q (.int v) H
def spLaw (K : PySem.W.Frag) : Sp := fun vs H Q _ => ∃ (a : Addr) (ns : List Int), vs = [.ref a] ∧ SqL K H a (ns.map V.int) ∧ ns.length ≤ 63 ∧ Plain H ∧ ∀ H', Q (.bl true) H'
theorem law_start {K : PySem.W.Frag} {H : Hp} {a : Addr} {ns : List Int} (hl : ns.length ≤ 63) (hO : Only H) (hS : SqL K H a (ns.map V.int)) : spLaw K [.ref a] H (fun v _ => v = .bl true) fun _ _ _ => False :=
  ⟨a, ns, rfl, hS, hl, only_plain hO, fun _ => rfl⟩
def nameL (l : List Nat) : Bool := decide (1 ≤ l.length) && decide (l.length ≤ 8) && l.all letter
theorem isName_list (z : Str) : isNameS z = nameL z.cps.toList := by
  unfold isNameS nameL
  rw [Array.length_toList]
def BIG : Str := "ABCDEFGHIJKLMNOPQRSTUVWXYZ"
theorem big_list : BIG.cps.toList = (List.range 26).map (65 + ·) := by decide +kernel
theorem big_len : BIG.cps.toList.length = 26 := by decide +kernel
theorem big_line : BIG.length ≤ sizeLine := line1000 (by decide +kernel)
theorem big_letter {c : Nat} (h : c ∈ BIG.cps.toList) : letter c = true := by
  rw [big_list] at h
  obtain ⟨k, hk, rfl⟩ := List.mem_map.mp h
  have := List.mem_range.mp hk
  unfold letter
  rw [decide_eq_true (by omega), decide_eq_true (by omega)]
  rfl
theorem app_list (a b : Str) : (a ++ b).cps.toList = a.cps.toList ++ b.cps.toList := by
  show (a.cps ++ b.cps).toList = _
  exact Array.toList_append
def strOf : Expr → Str
  | .Constant (.str x) _ _ => x
  | .BinOp _ _ b _ => strOf b
  | _ => ⟨#[]⟩
def valOf : Stmt → Str
  | .Assign _ v _ => strOf v
  | .Return (some v) _ => strOf v
  | _ => ⟨#[]⟩
def halfOf (s : Stmt) (i : Nat) : Str := valOf ((defBody s).getD i (.Pass ⟨0, 0, 0, 0⟩))
def goodCodes : List Nat := (List.range 95).filterMap fun k => if k = 5 then none else some (32 + k)
theorem codes_good {c : Nat} (h : c ∈ goodCodes) : good c = true := by
  obtain ⟨k, hk, e⟩ := List.mem_filterMap.mp h
  have := List.mem_range.mp hk
  unfold good
  split at e
  · cases e
  · cases e
    rw [decide_eq_true (by omega), decide_eq_true (by omega), decide_eq_false (by omega)]
    rfl
theorem codes_len : goodCodes.length = 94 := by decide +kernel
theorem q_one : (("'" : Str)).length = 1 := by decide +kernel
theorem q_list : (("'" : Str)).cps.toList = [39] := by decide +kernel
theorem sign_cps (c : Nat) : (("'" : Str) ++ ⟨#[c]⟩).cps = #[39, c] := by
  apply Array.ext'
  rw [app_list, q_list]
  rfl
theorem sign_sign {c : Nat} (h : good c = true) : isSignS (("'" : Str) ++ ⟨#[c]⟩) = true := by
  unfold isSignS
  rw [sign_cps]
  show (true && good c) = true
  rw [h]
  rfl
theorem sign_part {c : Nat} (h : good c = true) : isPartS (("'" : Str) ++ ⟨#[c]⟩) = true := by
  unfold isPartS
  rw [sign_sign h]
  rfl
theorem okRule_of {r : Rule} (h1 : isNameS r.1 = true) (h2 : r.2.1.length ≤ 6) (h3 : ∀ z ∈ r.2.1, isPartS z = true) (h4 : 0 ≤ r.2.2) (h5 : r.2.2 ≤ 10 ^ 60) : okRule r = true := by
  unfold okRule
  have a : r.2.1.all isPartS = true := List.all_eq_true.mpr h3
  rw [h1, decide_eq_true h2, a, decide_eq_true h4, decide_eq_true h5]
  rfl
theorem strs_items {ys : List V} {P : Str → Prop} (h : ∀ (k : Nat) (y : V), ys[k]? = some y → ∃ z, y = .str z ∧ P z) : ∃ zs : List Str, ys = zs.map V.str ∧ ∀ z ∈ zs, P z := by
  induction ys with
  | nil => exact ⟨[], rfl, by simp⟩
  | cons y ys ih =>
    obtain ⟨zs, rfl, hz⟩ := ih fun k y e => h (k + 1) y (by simpa using e)
    obtain ⟨z, rfl, pz⟩ := h 0 y rfl
    exact ⟨z :: zs, rfl, fun x hx => (List.mem_cons.mp hx).elim (fun e => by rw [e]; exact pz) (hz x)⟩
theorem slice_to {x : Str} {j : Int} (h0 : 0 ≤ j) (h1 : j ≤ x.length) : (Txt.slice x none (some j)).cps.toList = x.cps.toList.take j.toNat := by
  have h := PyProof.Rows.slice_closes_to (x := x) (j := j) ⟨h0, by rw [Array.length_toList]; exact h1⟩
  have e := eq_of_beq h
  rw [e]
  show ((x.cps.toList.drop (0 : Int).toNat).take (j - 0).toNat) = _
  rw [Int.sub_zero]
  rfl
theorem slice_from {x : Str} {i : Int} (h0 : 0 ≤ i) (h1 : i ≤ x.length) : (Txt.slice x (some i) none).cps.toList = x.cps.toList.drop i.toNat := by
  have e := PyProof.Rows.slice_from_eq (x := x) (i := i) (b := x.length) h0 h1 rfl
  rw [e]
  show ((x.cps.toList.drop i.toNat).take ((x.length : Int) - i).toNat) = _
  refine List.take_of_length_le ?_
  rw [List.length_drop, Array.length_toList]
  have : x.length = x.cps.size := rfl
  omega
end FR


set_option linter.all false
set_option maxRecDepth 100000
set_option maxHeartbeats 4000000
namespace FR
open PySem L2
abbrev Sz := List (Str × Int)
def szD (s : Sz) : List (Key × V) := s.map fun p => (Sum.inr p.1, .int p.2)
def look (s : Sz) (z : Str) : Option Int := (s.find? fun p => decide (p.1 = z)).map (·.2)
def putS : Sz → Str → Int → Sz
  | [], z, n => [(z, n)]
  | p :: s, z, n => if p.1 = z then (z, n) :: s else p :: putS s z n
theorem look_cons (p : Str × Int) (s : Sz) (z : Str) : look (p :: s) z = if p.1 = z then some p.2 else look s z := by
  unfold look
  rw [List.find?_cons]
  by_cases h : p.1 = z
  · rw [decide_eq_true h, if_pos h]; rfl
  · rw [decide_eq_false h, if_neg h]
theorem look_put (s : Sz) (z y : Str) (n : Int) : look (putS s z n) y = if y = z then some n else look s y := by
  induction s with
  | nil =>
    show look [(z, n)] y = _
    rw [look_cons]
    by_cases h : y = z
    · rw [if_pos h, if_pos h.symm]
    · rw [if_neg h, if_neg (fun e => h e.symm)]
  | cons p s ih =>
    unfold putS
    by_cases hp : p.1 = z
    · rw [if_pos hp, look_cons, look_cons]
      by_cases h : y = z
      · rw [if_pos h, if_pos h.symm]
      · rw [if_neg h, if_neg (fun e => h e.symm), if_neg (fun e => h (e.symm.trans hp))]
    · rw [if_neg hp, look_cons, look_cons, ih]
      by_cases h : y = z
      · rw [if_pos h, if_neg (fun e => hp (e.trans h))]
        rw [if_pos h]
      · rw [if_neg h]
        simp only [if_neg h]
theorem look_mem {s : Sz} {z : Str} {n : Int} (h : look s z = some n) : (z, n) ∈ s := by
  unfold look at h
  cases e : s.find? fun p => decide (p.1 = z) with
  | none => rw [e] at h; cases h
  | some p =>
    rw [e] at h
    have h1 := List.find?_some e
    have h2 : p.1 = z := of_decide_eq_true h1
    have h3 : p.2 = n := Option.some.inj h
    have := List.mem_of_find?_eq_some e
    rw [← h2, ← h3]
    exact this
theorem look_none {s : Sz} {z : Str} (h : look s z = none) : ¬ z ∈ s.map (·.1) := by
  intro m
  obtain ⟨p, hp, e⟩ := List.mem_map.mp m
  unfold look at h
  cases e2 : s.find? fun p => decide (p.1 = z) with
  | some q => rw [e2] at h; cases h
  | none =>
    have := List.find?_eq_none.mp e2 p hp
    exact this (decide_eq_true e)
theorem look_of {s : Sz} (nd : (s.map (·.1)).Nodup) {z : Str} {n : Int} (h : (z, n) ∈ s) : look s z = some n := by
  induction s with
  | nil => cases h
  | cons p s ih =>
    rw [List.map_cons, List.nodup_cons] at nd
    rw [look_cons]
    rcases List.mem_cons.mp h with e | h
    · rw [← e, if_pos rfl]
    · rw [if_neg, ih nd.2 h]
      intro e
      exact nd.1 (e ▸ List.mem_map.mpr ⟨_, h, rfl⟩)
theorem put_keys (s : Sz) (z : Str) (n : Int) : (putS s z n).map (·.1) = if z ∈ s.map (·.1) then s.map (·.1) else s.map (·.1) ++ [z] := by
  induction s with
  | nil => rfl
  | cons p s ih =>
    unfold putS
    by_cases h : p.1 = z
    · rw [if_pos h, if_pos (by rw [List.map_cons, h]; exact List.mem_cons_self ..), List.map_cons, List.map_cons, h]
    · rw [if_neg h, List.map_cons, ih, List.map_cons]
      by_cases m : z ∈ s.map (·.1)
      · rw [if_pos m, if_pos (List.mem_cons_of_mem _ m)]
      · rw [if_neg m, if_neg (fun e => (List.mem_cons.mp e).elim (fun e => h e.symm) m)]
        rfl
theorem valV_szD (z : Str) : ∀ s : Sz, valV (szD s) (Sum.inr z) = (look s z).map V.int
  | [] => rfl
  | p :: s => by
    show valV ((Sum.inr p.1, V.int p.2) :: szD s) (Sum.inr z) = _
    rw [look_cons]
    by_cases e : p.1 = z
    · rw [valV_pos (by rw [e]), if_pos e]; rfl
    · rw [valV_neg (fun h => e (Sum.inr.inj h)), valV_szD z s, if_neg e]
theorem put_szD {s : Sz} (nd : (s.map (·.1)).Nodup) (z : Str) (n : Int) : putK (szD s) (Sum.inr z) (.int n) = szD (putS s z n) := by
  induction s with
  | nil => rfl
  | cons p s ih =>
    rw [List.map_cons, List.nodup_cons] at nd
    unfold putS
    by_cases e : p.1 = z
    · rw [if_pos e]
      have : valV (szD (p :: s)) (Sum.inr z) = some (.int p.2) := by
        show valV ((Sum.inr p.1, V.int p.2) :: szD s) (Sum.inr z) = _
        rw [valV_pos (by rw [e])]
      unfold putK
      rw [valV_any, this, if_pos (show (some (V.int p.snd)).isSome = true from rfl)]
      show ((Sum.inr p.1, V.int p.2) :: szD s).map _ = (Sum.inr z, V.int n) :: szD s
      rw [List.map_cons]
      congr 1
      · show (if (Sum.inr p.1 : Key) = Sum.inr z then _ else _) = _
        rw [if_pos (by rw [e]), e]
      · refine (List.map_congr_left fun q hq => ?_).trans (List.map_id _)
        obtain ⟨r, hr, rfl⟩ := List.mem_map.mp hq
        show (if (Sum.inr r.1 : Key) = Sum.inr z then _ else _) = _
        rw [if_neg]
        · rfl
        · intro h
          exact nd.1 (by rw [e, ← Sum.inr.inj h]; exact List.mem_map.mpr ⟨r, hr, rfl⟩)
    · rw [if_neg e]
      have ih := ih nd.2
      show putK ((Sum.inr p.1, V.int p.2) :: szD s) (Sum.inr z) (.int n) = (Sum.inr p.1, V.int p.2) :: szD (putS s z n)
      rw [← ih]
      unfold putK
      have e1 : (((Sum.inr p.1, V.int p.2) :: szD s).any fun kv => decide (kv.1 = (Sum.inr z : Key))) = (szD s).any fun kv => decide (kv.1 = (Sum.inr z : Key)) := by
        rw [List.any_cons, decide_eq_false (fun h => e (Sum.inr.inj h))]
        rfl
      rw [e1]
      split
      · rw [List.map_cons]
        congr 1
        show (if (Sum.inr p.1 : Key) = Sum.inr z then _ else _) = _
        rw [if_neg (fun h => e (Sum.inr.inj h))]
      · rfl
def isQ (p : Str) : Bool := Txt.startswith p "'"
def sizeP (s : Sz) (q : Int) (p : Str) : Option Int := if isQ p = true then some q else look s p
def sizeG (s : Sz) (q : Int) : List Str → Int → Option Int
  | [], acc => some acc
  | p :: ps, acc => match sizeP s q p with
    | none => none
    | some m => sizeG s q ps (acc + m)
def sizeR (s : Sz) (q : Int) (ps : List Str) : Option Int := sizeG s q ps 1

def LeS (s' s : Sz) : Prop := ∀ z v, look s z = some v → ∃ v', look s' z = some v' ∧ v' ≤ v
theorem sizeG_mono {s s' : Sz} {q : Int} (h : LeS s' s) : ∀ {ps : List Str} {a a' k : Int}, a' ≤ a → sizeG s q ps a = some k → ∃ k', sizeG s' q ps a' = some k' ∧ k' ≤ k
  | [], a, a', k, ha, e => by
    unfold sizeG at e ⊢
    cases e
    exact ⟨_, rfl, ha⟩
  | p :: ps, a, a', k, ha, e => by
    unfold sizeG at e ⊢
    unfold sizeP at e ⊢
    by_cases hq : isQ p = true
    · rw [if_pos hq] at e ⊢
      exact sizeG_mono h (by omega) e
    · rw [if_neg hq] at e ⊢
      cases e1 : look s p with
      | none => rw [e1] at e; cases e
      | some v =>
        rw [e1] at e
        obtain ⟨v', e2, hv⟩ := h p v e1
        rw [e2]
        exact sizeG_mono h (show a' + v' ≤ a + v by omega) e
theorem sizeG_le {s : Sz} {q B : Int} (hq : q ≤ B) (hs : ∀ z v, look s z = some v → v ≤ B) : ∀ {ps : List Str} {a k : Int}, sizeG s q ps a = some k → k ≤ a + ps.length * B
  | [], a, k, e => by
    unfold sizeG at e
    cases e
    simp
  | p :: ps, a, k, e => by
    unfold sizeG at e
    cases e1 : sizeP s q p with
    | none => rw [e1] at e; cases e
    | some m =>
      rw [e1] at e
      have hm : m ≤ B := by
        unfold sizeP at e1
        split at e1
        · cases e1; exact hq
        · exact hs p m e1
      have := sizeG_le hq hs e
      rw [List.length_cons, show (((ps.length + 1 : Nat) : Int)) * B = ps.length * B + B by rw [Int.natCast_add]; show ((ps.length : Int) + 1) * B = _; rw [Int.add_mul, Int.one_mul]]
      omega
theorem sizeG_ge {s : Sz} {q : Int} (hq : 0 ≤ q) (hs : ∀ z v, look s z = some v → 0 ≤ v) : ∀ {ps : List Str} {a k : Int}, sizeG s q ps a = some k → a ≤ k
  | [], a, k, e => by
    unfold sizeG at e
    cases e
    exact Int.le_refl _
  | p :: ps, a, k, e => by
    unfold sizeG at e
    cases e1 : sizeP s q p with
    | none => rw [e1] at e; cases e
    | some m =>
      rw [e1] at e
      have hm : 0 ≤ m := by
        unfold sizeP at e1
        split at e1
        · cases e1; exact hq
        · exact hs p m e1
      have := sizeG_ge hq hs e
      omega
def bnd (q : Int) (n : Nat) : Int := (1 + 6 * q) * 7 ^ n
theorem bnd_pos {q : Int} (hq : 0 ≤ q) (n : Nat) : 1 + 6 * q ≤ bnd q n := by
  unfold bnd
  have h1 : (1 : Int) ≤ 7 ^ n := Int.pow_pos (by decide : (0 : Int) < 7)
  have := Int.mul_le_mul_of_nonneg_left h1 (show 0 ≤ 1 + 6 * q by omega)
  rw [Int.mul_one] at this
  exact this
theorem bnd_succ (q : Int) (n : Nat) : bnd q (n + 1) = 7 * bnd q n := by
  unfold bnd
  rw [Int.pow_succ, ← Int.mul_assoc, Int.mul_comm]
theorem bnd_mono {q : Int} (hq : 0 ≤ q) {m n : Nat} (h : m ≤ n) : bnd q m ≤ bnd q n := by
  induction h with
  | refl => exact Int.le_refl _
  | step _ ih =>
    rename_i k _
    rw [bnd_succ]
    have h2 := bnd_pos hq k
    omega
structure SzOk (g : Gram) (q : Int) (s : Sz) : Prop where
  nd : (s.map (·.1)).Nodup
  pos : ∀ z v, look s z = some v → 1 ≤ v
  bd : ∀ z v, look s z = some v → v ≤ bnd q s.length
  hd : ∀ z v, look s z = some v → ∃ r ∈ g, r.1 = z ∧ ∃ m, sizeR s q r.2.1 = some m ∧ m ≤ v
theorem nd_snoc {κ : Type} : ∀ {l : List κ} {k : κ}, l.Nodup → ¬ k ∈ l → (l ++ [k]).Nodup
  | [], k, _, _ => by simp
  | a :: r, k, h, hk => by
    obtain ⟨h1, h2⟩ := List.nodup_cons.mp h
    show (a :: (r ++ [k])).Nodup
    refine List.nodup_cons.mpr ⟨fun m => ?_, nd_snoc h2 fun m => hk (List.mem_cons.mpr (Or.inr m))⟩
    rcases List.mem_append.mp m with q | q
    · exact h1 q
    · exact hk (List.mem_cons.mpr (Or.inl (List.mem_singleton.mp q).symm))
theorem nodup_len {xs ys : List Str} (h : xs.Nodup) (hs : ∀ x ∈ xs, x ∈ ys) : xs.length ≤ ys.length := by
  induction xs generalizing ys with
  | nil => exact Nat.zero_le _
  | cons x xs ih =>
    rw [List.nodup_cons] at h
    have hx := hs x (List.mem_cons_self ..)
    have := ih (ys := ys.erase x) h.2 fun y hy => by
      have hne : y ≠ x := fun e => h.1 (e ▸ hy)
      exact (List.mem_erase_of_ne hne).mpr (hs y (List.mem_cons_of_mem _ hy))
    rw [List.length_erase_of_mem hx] at this
    have hpos := List.length_pos_of_mem hx
    rw [List.length_cons]
    omega
theorem SzOk.len {g : Gram} {q : Int} {s : Sz} (h : SzOk g q s) : s.length ≤ g.length := by
  have := nodup_len (ys := g.map (·.1)) h.nd fun x hx => by
    obtain ⟨p, hp, rfl⟩ := List.mem_map.mp hx
    obtain ⟨r, hr, e, _⟩ := h.hd p.1 p.2 (look_of h.nd hp)
    rw [← e]
    exact List.mem_map.mpr ⟨r, hr, rfl⟩
  rwa [List.length_map, List.length_map] at this

def mu (g : Gram) (q : Int) (s : Sz) : Nat := (g.map fun r => match look s r.1 with
  | none => (bnd q 60).toNat + 1
  | some v => v.toNat).sum
theorem sum_lt {α : Type} {f f' : α → Nat} : ∀ {l : List α}, (∀ x ∈ l, f' x ≤ f x) → (∃ x ∈ l, f' x < f x) → (l.map f').sum < (l.map f).sum
  | [], _, ⟨_, h, _⟩ => by cases h
  | a :: l, h, ⟨x, hx, hlt⟩ => by
    rw [List.map_cons, List.map_cons, List.sum_cons, List.sum_cons]
    have ha := h a (List.mem_cons_self ..)
    have hle : ∀ (l : List α), (∀ x ∈ l, f' x ≤ f x) → (l.map f').sum ≤ (l.map f).sum := by
      intro l
      induction l with
      | nil => intro _; exact Nat.le_refl _
      | cons b l ih =>
        intro h
        rw [List.map_cons, List.map_cons, List.sum_cons, List.sum_cons]
        have h1 := h b (List.mem_cons_self ..)
        have h2 := ih fun x hx => h x (List.mem_cons_of_mem _ hx)
        omega
    rcases List.mem_cons.mp hx with rfl | hx
    · have := hle l fun x hx => h x (List.mem_cons_of_mem _ hx)
      omega
    · have := sum_lt (fun x hx => h x (List.mem_cons_of_mem _ hx)) ⟨x, hx, hlt⟩
      omega
theorem put_len (s : Sz) (z : Str) (n : Int) : (putS s z n).length = if z ∈ s.map (·.1) then s.length else s.length + 1 := by
  have := congrArg List.length (put_keys s z n)
  rw [List.length_map] at this
  rw [this]
  split
  · rw [List.length_map]
  · rw [List.length_append, List.length_map]; rfl

theorem SzOk.step {g : Gram} {q : Int} {s : Sz} (hg : okGram g = true) (hq : 0 ≤ q) (h : SzOk g q s) {r : Rule} (hr : r ∈ g) {m : Int} (hm : sizeR s q r.2.1 = some m) (hv : ∀ v, look s r.1 = some v → m < v) :
    SzOk g q (putS s r.1 m) ∧ mu g q (putS s r.1 m) < mu g q s := by
  have hg60 : g.length ≤ 60 := by
    unfold okGram at hg
    rw [Bool.and_eq_true] at hg
    exact of_decide_eq_true hg.1
  have hr6 : r.2.1.length ≤ 6 := by
    unfold okGram at hg
    rw [Bool.and_eq_true] at hg
    have := List.all_eq_true.mp hg.2 r hr
    unfold okRule at this
    simp only [Bool.and_eq_true, decide_eq_true_eq] at this
    exact this.2.1.1
  have hB := bnd_pos hq s.length
  have hm1 : 1 ≤ m := sizeG_ge hq (fun z v e => Int.le_trans (by decide) (h.pos z v e)) hm
  have hmB : m ≤ 7 * bnd q s.length := by
    have h1 := sizeG_le (show q ≤ bnd q s.length by omega) h.bd hm
    have h2 : (r.2.1.length : Int) * bnd q s.length ≤ 6 * bnd q s.length := Int.mul_le_mul_of_nonneg_right (by omega) (by omega)
    omega
  have le : LeS (putS s r.1 m) s := fun z v e => by
    rw [look_put]
    by_cases hz : z = r.1
    · rw [if_pos hz]
      have := hv v (hz ▸ e)
      exact ⟨m, rfl, by omega⟩
    · rw [if_neg hz]
      exact ⟨v, e, Int.le_refl _⟩
  have nd' : ((putS s r.1 m).map (·.1)).Nodup := by
    rw [put_keys]
    split
    · exact h.nd
    · rename_i hn
      exact nd_snoc h.nd hn
  have bd' : m ≤ bnd q (putS s r.1 m).length := by
    rw [put_len]
    split
    · rename_i hmem
      obtain ⟨p, hp, e⟩ := List.mem_map.mp hmem
      have := look_of h.nd (z := p.1) (n := p.2) hp
      rw [e] at this
      have h1 := hv _ this
      have h2 := h.bd _ _ this
      omega
    · rw [bnd_succ]; exact hmB
  have lenle : s.length ≤ (putS s r.1 m).length := by
    rw [put_len]
    split <;> omega
  have ok' : SzOk g q (putS s r.1 m) := by
    refine ⟨nd', fun z v e => ?_, fun z v e => ?_, fun z v e => ?_⟩
    · rw [look_put] at e
      split at e
      · cases e; exact hm1
      · exact h.pos z v e
    · rw [look_put] at e
      split at e
      · cases e; exact bd'
      · exact Int.le_trans (h.bd z v e) (bnd_mono hq lenle)
    · rw [look_put] at e
      split at e
      · rename_i hz
        cases e
        obtain ⟨k', e1, e2⟩ := sizeG_mono le (Int.le_refl 1) hm
        exact ⟨r, hr, hz.symm, k', e1, e2⟩
      · obtain ⟨r', hr', e1, k, e2, e3⟩ := h.hd z v e
        obtain ⟨k', e4, e5⟩ := sizeG_mono le (Int.le_refl 1) e2
        exact ⟨r', hr', e1, k', e4, by omega⟩
  refine ⟨ok', ?_⟩
  have hB60 : bnd q (putS s r.1 m).length ≤ bnd q 60 := bnd_mono hq (Nat.le_trans ok'.len hg60)
  have hmB60 : m ≤ bnd q 60 := Int.le_trans bd' hB60
  unfold mu
  refine sum_lt (fun x hx => ?_) ⟨r, hr, ?_⟩
  · rw [look_put]
    by_cases hz : x.1 = r.1
    · rw [if_pos hz, hz]
      cases e : look s r.1 with
      | none => show m.toNat ≤ (bnd q 60).toNat + 1; omega
      | some v =>
        have := hv v e
        show m.toNat ≤ v.toNat
        omega
    · rw [if_neg hz]
      exact Nat.le_refl _
  · rw [look_put, if_pos rfl]
    cases e : look s r.1 with
    | none => show m.toNat < (bnd q 60).toNat + 1; omega
    | some v =>
      have := hv v e
      show m.toNat < v.toNat
      omega
theorem SzOk.nil (g : Gram) (q : Int) : SzOk g q [] where
  nd := List.nodup_nil
  pos := fun z v e => by cases e
  bd := fun z v e => by cases e
  hd := fun z v e => by cases e
end FR


set_option linter.all false
set_option maxRecDepth 100000
set_option maxHeartbeats 4000000
namespace FR
open PySem L2

abbrev Wait := Str ⊕ Nat
def numD (g : Gram) : D → Option Rule
  | .int i => if 0 ≤ i then g[i.toNat]? else none
  | _ => none
structure Rdg where
  sg : List Nat
  bg : List Nat
  st : List Nat
def sgn (p : Str) : Nat := p.cps.getD 1 0

def fin (g : Gram) : List Wait → Rdg → List D → Option Rdg
  | [], s, [] => some s
  | [], _, _ :: _ => none
  | .inr k :: ws, s, ds => fin g ws ⟨s.sg, s.bg, s.st.set k s.sg.length⟩ ds
  | .inl p :: ws, s, ds =>
    if isQ p = true then fin g ws ⟨s.sg ++ [sgn p], s.bg, s.st⟩ ds
    else match ds with
      | [] => none
      | d :: ds' => match numD g d with
        | none => none
        | some r => if r.1 = p then fin g (r.2.1.map Sum.inl ++ (Sum.inr s.bg.length :: ws)) ⟨s.sg, s.bg ++ [s.sg.length], s.st ++ [s.sg.length]⟩ ds' else none
termination_by ws _ ds => (ds.length, ws.length)
decreasing_by
  all_goals simp_wf
  all_goals first
    | (apply Prod.Lex.right; omega)
    | (apply Prod.Lex.left; omega)
end FR


set_option linter.all false
set_option maxRecDepth 100000
set_option maxHeartbeats 4000000
namespace L2
open PySem PySem.Spec PyProof.Rows
section
variable {X : Cx} {pins : List (Addr × Obj)} {σ : St} {H : Hp} {s : Shared} {d : Addr} {o : Obj} {kvs : List (Key × V)}
end
theorem KV.get {kvs : List (Key × V)} {vs : List (Key × Value)} (r : KV kvs vs) : ∀ {i : Nat} {kv : Key × V}, kvs[i]? = some kv → ∃ u, vs[i]? = some (kv.1, u) ∧ RelV kv.2 u := by
  unfold KV at r
  induction r with
  | nil => intro i kv e; cases e
  | @cons p q ps qs h t ih =>
    intro i kv e
    cases i with
    | zero =>
      cases e
      exact ⟨q.2, by rw [h.1]; rfl, h.2⟩
    | succ j => exact ih (i := j) e

theorem entry_itemiter_iter : entryFor table "dict_itemiterator.__iter__" = some Builtin.«dict_keyiterator.__iter__» := entryFor_alias (id' := "dict_keyiterator.__iter__") (by kernel_rfl) rfl (by decide +kernel) (by kernel_rfl)
theorem wpAny_pyIter_itemiter {P : Program} {w : World} {A : Around} {E : Value → Shared → Prop} {s : Shared} {it d : Addr} {i n ep : Nat} {ok ov : Value} {Q : Value → Shared → Prop} (he : IsItemIter s.heap it d i n ep ok ov) (h : Q (.ref it) s) : wpAny (model P w) A (pyIter (.ref it)) Q E s := by
  have hT : s.TypeIs (.ref it) "dict_itemiterator" := ⟨_, he, rfl⟩
  refine wpAny_pyIter_slot hT F.slot_dict_itemiterator_iter (wpAny_call_entry F.slot_dict_itemiterator_iter hT entry_itemiter_iter ?_ (F.args_dict_itemiterator_iter_1 _))
  show wpAny _ _ (ret (.ref it)) _ _ s
  exact wpAny_pure ⟨_, rfl, "dict_itemiterator", _, hT, F.slot_dict_itemiterator_next.lookup, h⟩
section
variable {X : Cx} {elts : List Expr} {k : Nat} {tpos : Pos}
end

end L2


set_option linter.all false
set_option maxRecDepth 100000
set_option maxHeartbeats 4000000
namespace FR
open PySem L2
def unQ (ps : List Str) : List Str := ps.filter fun p => !isQ p
end FR


set_option linter.all false
set_option maxRecDepth 100000
set_option maxHeartbeats 4000000
namespace L2
open PySem PySem.Spec PyProof.Rows
theorem rv_mro : mroOf (.type "reversed") = pure [.type "reversed", .type "object"] := by rw [mroOf_type]; kernel_rfl
theorem rv_newl : typeLookup (.type "reversed") "__new__" = pure (some (.builtin "reversed.__new__")) := by rw [typeLookup_type, builtinLookup_eq_fast]; kernel_rfl
theorem rv_init : Slot "reversed" "__init__" "object.__init__" := .of (owner := "object") (n := "__init__") (by rw [typeLookup_type, builtinLookup_eq_fast]; kernel_rfl) (by decide +kernel) (by decide +kernel) (by decide +kernel) (by first | exact .inl (by decide +kernel) | exact .inr (by decide +kernel)) (by rw [isSubtype_type]; kernel_rfl)
theorem rv_called : TypeCalled "reversed" "reversed.__new__" "object.__init__" := ⟨by decide +kernel, by decide +kernel, ⟨_, _, rv_mro⟩, madeBy_type rv_mro rv_newl (by decide +kernel), by decide +kernel, by rw [isSubtype_type]; kernel_rfl, rv_init⟩
theorem rv_typeCall (a : Value) : checkTypeCall "reversed" ⟨[a], []⟩ = pure () := by kernel_rfl
theorem rv_newCall (a : Value) : checkBuiltinCall "reversed.__new__" ⟨[.type "reversed", a], []⟩ = pure () := by kernel_rfl
theorem rv_entry : entryFor table "reversed.__new__" = some Builtin.«reversed.__new__» := entryFor_of_tree (by kernel_rfl)
theorem rv_noRev : typeLookup (.type "tuple") "__reversed__" = pure none := by rw [typeLookup_type, builtinLookup_eq_fast]; kernel_rfl
theorem rv_get : typeLookup (.type "tuple") "__getitem__" = pure (some (.builtin "tuple.__getitem__")) := by rw [typeLookup_type, builtinLookup_eq_fast]; kernel_rfl
theorem rv_ndict : isSubtype (.type "tuple") (.type "dict") = pure false := by rw [isSubtype_type]; kernel_rfl
theorem rv_nsub : isSubtype (.type "list_reverseiterator") (.type "reversed") = pure false := by rw [isSubtype_type]; kernel_rfl
theorem lr_slotI : Slot "list_reverseiterator" "__iter__" "list_reverseiterator.__iter__" := .of (owner := "list_reverseiterator") (n := "__iter__") (by rw [typeLookup_type, builtinLookup_eq_fast]; kernel_rfl) (by decide +kernel) (by decide +kernel) (by decide +kernel) (by first | exact .inl (by decide +kernel) | exact .inr (by decide +kernel)) (by rw [isSubtype_type]; kernel_rfl)
theorem lr_slotN : Slot "list_reverseiterator" "__next__" "list_reverseiterator.__next__" := .of (owner := "list_reverseiterator") (n := "__next__") (by rw [typeLookup_type, builtinLookup_eq_fast]; kernel_rfl) (by decide +kernel) (by decide +kernel) (by decide +kernel) (by first | exact .inl (by decide +kernel) | exact .inr (by decide +kernel)) (by rw [isSubtype_type]; kernel_rfl)
theorem lr_entI : entryFor table "list_reverseiterator.__iter__" = some Builtin.«dict_keyiterator.__iter__» := entryFor_alias (id' := "dict_keyiterator.__iter__") (by kernel_rfl) rfl (by decide +kernel) (by kernel_rfl)
theorem lr_entN : entryFor table "list_reverseiterator.__next__" = some Builtin.«list_reverseiterator.__next__» := entryFor_of_tree (by kernel_rfl)
theorem lr_argI (a : Value) : argsOk "list_reverseiterator.__iter__" ⟨[a], []⟩ := by unfold argsOk; kernel_rfl
theorem lr_argN (a : Value) : argsOk "list_reverseiterator.__next__" ⟨[a], []⟩ := by unfold argsOk; kernel_rfl
theorem rv_slotI : Slot "reversed" "__iter__" "reversed.__iter__" := .of (owner := "reversed") (n := "__iter__") (by rw [typeLookup_type, builtinLookup_eq_fast]; kernel_rfl) (by decide +kernel) (by decide +kernel) (by decide +kernel) (by first | exact .inl (by decide +kernel) | exact .inr (by decide +kernel)) (by rw [isSubtype_type]; kernel_rfl)
theorem rv_slotN : Slot "reversed" "__next__" "reversed.__next__" := .of (owner := "reversed") (n := "__next__") (by rw [typeLookup_type, builtinLookup_eq_fast]; kernel_rfl) (by decide +kernel) (by decide +kernel) (by decide +kernel) (by first | exact .inl (by decide +kernel) | exact .inr (by decide +kernel)) (by rw [isSubtype_type]; kernel_rfl)
theorem rv_entI : entryFor table "reversed.__iter__" = some Builtin.«dict_keyiterator.__iter__» := entryFor_alias (id' := "dict_keyiterator.__iter__") (by kernel_rfl) rfl (by decide +kernel) (by kernel_rfl)
theorem rv_entN : entryFor table "reversed.__next__" = some Builtin.«reversed.__next__» := entryFor_of_tree (by kernel_rfl)
theorem rv_argI (a : Value) : argsOk "reversed.__iter__" ⟨[a], []⟩ := by unfold argsOk; kernel_rfl
theorem rv_argN (a : Value) : argsOk "reversed.__next__" ⟨[a], []⟩ := by unfold argsOk; kernel_rfl
end L2


set_option linter.all false
set_option maxRecDepth 100000
set_option maxHeartbeats 4000000
namespace L2
open PySem PySem.Spec PyProof.Rows
theorem meets_rev_list (l : Addr) (items : Array Value) (n : Nat) :
    Meets (Builtin.«reversed.__new__» ⟨[.type "reversed", .ref l], []⟩) (fun A R s => s.heap.get? l = some { cls := .type "list", dict := none, data := .seq items n, slots := #[] } ∧
      R (.ok (.ret (.ref s.heap.objs.size))) { s with heap := s.heap.push { cls := .type "list_reverseiterator", data := .fields #[.ref l, rawInt ((items.size : Int) - 1)] } }) :=
  .of_wp fun prog w A R s h => by
    obtain ⟨hp, g, d, tk, os⟩ := s
    obtain ⟨hl, h⟩ := h
    have hsub := rv_called.sub
    have hT : Shared.TypeIs ⟨hp, g, d, tk, os⟩ (.ref l) "list" := ⟨_, hl, rfl⟩
    have hrev := F.slot_list_reversed.lookup
    have hb := F.slot_list_reversed.bind (.ref l)
    wp_walk
    have key := AutoListH.list___reversed___list_0 l items n prog w A.in1 (fun (r : Result) (s' : Shared) => r = Except.ok (Flow.ret (Value.ref hp.objs.size)) ∧ s' = ⟨hp.push { cls := .type "list_reverseiterator", data := .fields #[.ref l, rawInt ((items.size : Int) - 1)] }, g, d, tk, os⟩) ⟨hp, g, d, tk, os⟩ ⟨hl, rfl, rfl⟩
    refine codeAny_mono (codeAny_call_builtin (R := (fun (r : Result) (s' : Shared) => r = Except.ok (Flow.ret (Value.ref hp.objs.size)) ∧ s' = ⟨hp.push { cls := .type "list_reverseiterator", data := .fields #[.ref l, rawInt ((items.size : Int) - 1)] }, g, d, tk, os⟩)) F.slot_list_reversed.plain F.entry_list_reversed (F.slot_list_reversed.check _ _ _ _ _ _ _ _ hT (F.args_list_reversed_1 _) key)) fun r s1 hr => ?_
    obtain ⟨rfl, rfl⟩ := hr
    exact wpAny_pure ⟨_, rfl, h⟩
theorem meets_rev_tuple (l : Addr) (items : Array Value) (o : Obj) (n : Nat) (hc : o.cls = .type "tuple") (hd : o.data = .seq items n) (hz : (items.size : Int) < 2 ^ 63) :
    Meets (Builtin.«reversed.__new__» ⟨[.type "reversed", .ref l], []⟩) (fun A R s => s.heap.get? l = some o ∧
      R (.ok (.ret (.ref s.heap.objs.size))) { s with heap := s.heap.push { cls := .type "reversed", data := .fields #[.ref l, rawInt ((items.size : Int) - 1)] }, toks := s.toks + 1 + 1 }) :=
  .of_wp fun prog w A R s h => by
    obtain ⟨hp, g, d, tk, os⟩ := s
    obtain ⟨hl, h⟩ := h
    have hsub := rv_called.sub
    have hT : Shared.TypeIs ⟨hp, g, d, tk, os⟩ (.ref l) "tuple" := ⟨_, hl, hc⟩
    have h1 := rv_noRev
    have h2 := rv_get
    have h3 := rv_ndict
    have ht : IsTup (Shared.heap ⟨hp, g, d, tk, os⟩) l items := ⟨o, hl, hc, n, hd⟩
    wp_walk using len_tuple ht hz
    exact ⟨_, rfl, h⟩
section
variable {prog : Program} {w : World} {A : Around} {E : Value → Shared → Prop} {s : Shared}

theorem callType_else {T T2 newId initId : String} {Bn : Builtin} {args : List Value} {S : PySem.Spec} {Q : Value → Shared → Prop} (ft : TypeCalled T newId initId) (hn : isSubtype (.type T2) (.type T) = pure false)
    (hct : checkTypeCall T ⟨args, []⟩ = pure ()) (hcn : checkBuiltinCall newId ⟨.type T :: args, []⟩ = pure ()) (entryN : entryFor table newId = some Bn) (g : Meets (Bn ⟨.type T :: args, []⟩) S)
    (h : S A.in1 (wants (fun obj s1 => s1.TypeIs obj T2 ∧ Q obj s1) E) s) : wpAny (model prog w) A (call (.type T) args) Q E s := by
  obtain ⟨_, _, m0⟩ := ft.mro
  have m1 := ft.made; have m2 := ft.sub; have m3 := ft.notType; have m4 := ft.canCreate
  refine wpAny_call (codeAny_of_tree (show wpAny _ _ (callAny (.type T) _) _ _ _ from wpAny_pure ⟨Code.quiet_builtin _ (by decide +kernel), codeAny_builtin F.entry_type_call ?_⟩))
  rw [Around.under_plain (weight_type_call_type T args []) (units_type_call_type T args [])]; repeat any_goals first | assumption | wp_step
  refine codeAny_mono (codeAny_call_builtin ft.plain entryN (wpAny_of_eq hcn (g prog w A.in1 _ s h))) fun r s1 hr => ?_
  rcases r with e | fl
  · exact hr
  · cases fl with
    | ret obj =>
      obtain ⟨hT, hq⟩ := hr
      repeat any_goals first | assumption | wp_step
    | _ => exact hr.elim

theorem stop_it {α : Type} {Q : α → Shared → Prop} {E' : Value → Shared → Prop} (hh : A.handled = none) (h : ∀ e h', (∀ b o, s.heap.get? b = some o → h'.get? b = some o) → Shared.TypeIs { s with heap := h' } e "StopIteration" → E' e { s with heap := h' }) :
    wpAny (model prog w) A (Builtin.SmallTypes.stopIteration : Sem α) Q E' s := by
  unfold Builtin.SmallTypes.stopIteration
  refine wpAny_bind ?_
  simp only [newExc, newTuple]
  refine wpAny_bind (wpAny_newObj_type (wpAny_bind (m := firstArgMember _ _) (wpAny_of_eq (a := Value.none) (by first | rfl | (simp only [firstArgMember]; rfl)) (wpAny_newObj_type ?_ (by size_fits)))) (by size_fits))
  simp only [raiseNew]
  refine wpAny_bind (wpAny_handled ?_)
  rw [hh]
  refine wpAny_bind (wpAny_pure (wpAny_throw (h _ _ (fun b o e => Heap.get?_push_of_some _ (Heap.get?_push_of_some _ e)) ?_)))
  exact ⟨_, Heap.get?_push_size _ rfl, rfl⟩

def RevL (h : Heap) (it l : Addr) (i : Int) : Prop := ∃ o, h.get? it = some o ∧ o.cls = .type "list_reverseiterator" ∧ o.data = .fields #[.ref l, .int i 0]
def RevT (h : Heap) (it l : Addr) (i : Int) : Prop := ∃ o, h.get? it = some o ∧ o.cls = .type "reversed" ∧ o.data = .fields #[.ref l, .int i 0]
theorem call_rev_list {l : Addr} {items : Array Value} {n : Nat} {Q : Value → Shared → Prop} (hl : s.heap.get? l = some { cls := .type "list", dict := none, data := .seq items n, slots := #[] })
    (h : ∀ h', RevL h' s.heap.objs.size l ((items.size : Int) - 1) → (∀ b o, s.heap.get? b = some o → h'.get? b = some o) → Q (.ref s.heap.objs.size) { s with heap := h' }) : wpAny (model prog w) A (call (.type "reversed") [.ref l]) Q E s := by
  refine callType_else rv_called rv_nsub (rv_typeCall _) (rv_newCall _) rv_entry (meets_rev_list l items n) ⟨hl, ?_⟩
  exact ⟨⟨_, Heap.get?_push_size _ rfl, rfl⟩, h _ ⟨_, Heap.get?_push_size _ rfl, rfl, rfl⟩ fun b o e => Heap.get?_push_of_some _ e⟩
theorem call_rev_tuple {l : Addr} {items : Array Value} {Q : Value → Shared → Prop} (hl : IsTup s.heap l items) (hz : (items.size : Int) < 2 ^ 63)
    (h : ∀ h', RevT h' s.heap.objs.size l ((items.size : Int) - 1) → (∀ b o, s.heap.get? b = some o → h'.get? b = some o) → Q (.ref s.heap.objs.size) { s with heap := h', toks := s.toks + 1 + 1 }) : wpAny (model prog w) A (call (.type "reversed") [.ref l]) Q E s := by
  obtain ⟨o, ho, hc, n, hd⟩ := hl
  refine callType_new rv_called (by decide) (rv_typeCall _) (rv_newCall _) (fun obj => F.args_object_init_2 obj _) rv_entry (meets_rev_tuple l items o n hc hd hz) ⟨ho, ?_⟩
  exact ⟨⟨_, Heap.get?_push_size _ rfl, rfl⟩, h _ ⟨_, Heap.get?_push_size _ rfl, rfl, rfl⟩ fun b o e => Heap.get?_push_of_some _ e⟩
theorem iter_revL {it l : Addr} {i : Int} {Q : Value → Shared → Prop} (hit : RevL s.heap it l i) (h : Q (.ref it) s) : wpAny (model prog w) A (pyIter (.ref it)) Q E s := by
  obtain ⟨o, ho, hc, hd⟩ := hit
  have hT : s.TypeIs (.ref it) "list_reverseiterator" := ⟨o, ho, hc⟩
  refine wpAny_pyIter_slot hT lr_slotI (wpAny_call_entry lr_slotI hT lr_entI ?_ (lr_argI _))
  show wpAny _ _ (ret (.ref it)) _ _ s
  exact wpAny_pure ⟨_, rfl, "list_reverseiterator", _, hT, lr_slotN.lookup, h⟩
theorem iter_revT {it l : Addr} {i : Int} {Q : Value → Shared → Prop} (hit : RevT s.heap it l i) (h : Q (.ref it) s) : wpAny (model prog w) A (pyIter (.ref it)) Q E s := by
  obtain ⟨o, ho, hc, hd⟩ := hit
  have hT : s.TypeIs (.ref it) "reversed" := ⟨o, ho, hc⟩
  refine wpAny_pyIter_slot hT rv_slotI (wpAny_call_entry rv_slotI hT rv_entI ?_ (rv_argI _))
  show wpAny _ _ (ret (.ref it)) _ _ s
  exact wpAny_pure ⟨_, rfl, "reversed", _, hT, rv_slotN.lookup, h⟩
theorem next_revL {it l : Addr} {i : Nat} {items : Array Value} {x : Value} {Q : Option Value → Shared → Prop} (hit : RevL s.heap it l i) (hl : s.heap.IsList l items) (hx : items[i]? = some x)
    (hQ : ∀ h', RevL h' it l ((i : Int) - 1) → Heap.SameBut it s.heap h' → Q (some x) { s with heap := h' }) : wpAny (model prog w) A (pyNext (.ref it)) Q E s := by
  obtain ⟨o, ho, hc, hd⟩ := id hit
  obtain ⟨ol, hol, _, nl, hdl⟩ := hl
  have hT : s.TypeIs (.ref it) "list_reverseiterator" := ⟨o, ho, hc⟩
  unfold pyNext
  refine wpAny_bind (wpAny_attempt (wpAny_callSpecial?_slot (name := Str.ofString "__next__") hT lr_slotN (wpAny_call_entry lr_slotN hT lr_entN ?_ (lr_argN _))))
  unfold Builtin.«list_reverseiterator.__next__»
  refine wpAny_bind (wpAny_pure (wpAny_bind (wpAny_field ho hd (x := .int i 0) rfl ?_)))
  show wpAny _ _ (if ((i : Nat) : Int) < 0 then _ else _) _ _ s
  rw [if_neg (by omega)]
  refine wpAny_bind (wpAny_field ho hd (x := .ref l) rfl (wpAny_bind (wpAny_seqItems hol hdl ?_)))
  simp only [hx, Int.toNat_natCast]
  exact wpAny_bind (wpAny_setField ho hd (by simp) (wpAny_pure ⟨_, rfl, wpAny_pure (hQ _ ⟨_, Heap.get?_update_self _ ho (Obj.isFreed_of_fields (Obj.data_mapFields hd _)), (Obj.cls_mapFields ..).trans hc, by rw [Obj.data_mapFields hd]; simp [rawInt]⟩ (Heap.SameBut.update ..))⟩))
theorem next_revT {it l : Addr} {i : Nat} {items : Array Value} {x : Value} {Q : Option Value → Shared → Prop} (hit : RevT s.heap it l i) (hl : IsTup s.heap l items) (hx : items[i]? = some x) (hz : (items.size : Int) < 2 ^ 63)
    (hQ : ∀ h', RevT h' it l ((i : Int) - 1) → Heap.SameBut it s.heap h' → Q (some x) { s with heap := h', toks := s.toks + 1 }) : wpAny (model prog w) A (pyNext (.ref it)) Q E s := by
  obtain ⟨o, ho, hc, hd⟩ := id hit
  have hT : s.TypeIs (.ref it) "reversed" := ⟨o, ho, hc⟩
  unfold pyNext
  refine wpAny_bind (wpAny_attempt (wpAny_callSpecial?_slot (name := Str.ofString "__next__") hT rv_slotN (wpAny_call_entry rv_slotN hT rv_entN ?_ (rv_argN _))))
  unfold Builtin.«reversed.__next__»
  refine wpAny_bind (wpAny_pure (wpAny_bind (wpAny_field ho hd (x := .ref l) rfl (wpAny_bind (wpAny_field ho hd (x := .int i 0) rfl ?_)))))
  show wpAny _ _ (if ((i : Nat) : Int) < 0 then _ else _) _ _ s
  rw [if_neg (by omega)]
  refine wpAny_bind (wpAny_specialOf hl.typeIs rv_get ?_)
  show wpAny _ _ (mkInt (i : Int) >>= _) _ _ s
  refine wpAny_bind (wpAny_mkInt ?_)
  have hlt : i < items.size := (Array.getElem?_eq_some_iff.mp hx).1
  have hsi : seqIndex? (i : Int) items.size = some i := by
    unfold seqIndex?
    simp
    omega
  refine wpAny_bind (wpAny_attempt (getItem_tuple (s := { s with toks := s.toks + 1 }) hl (by omega) (by omega) hsi hx ?_))
  refine wpAny_bind (wpAny_field (s := { s with toks := s.toks + 1 }) ho hd (x := .int i 0) rfl ?_)
  exact wpAny_bind (wpAny_setField (s := { s with toks := s.toks + 1 }) ho hd (by simp) (wpAny_pure ⟨_, rfl, wpAny_pure (hQ _ ⟨_, Heap.get?_update_self _ ho (Obj.isFreed_of_fields (Obj.data_mapFields hd _)), (Obj.cls_mapFields ..).trans hc, by rw [Obj.data_mapFields hd]; simp [rawInt]⟩ (Heap.SameBut.update ..))⟩))
theorem end_revL {it l : Addr} {Q : Option Value → Shared → Prop} (hh : A.handled = none) (hit : RevL s.heap it l (-1)) (hQ : ∀ h', Heap.ExtBut it s.heap h' → Q none { s with heap := h' }) : wpAny (model prog w) A (pyNext (.ref it)) Q E s := by
  obtain ⟨o, ho, hc, hd⟩ := id hit
  have hT : s.TypeIs (.ref it) "list_reverseiterator" := ⟨o, ho, hc⟩
  unfold pyNext
  refine wpAny_bind (wpAny_attempt (wpAny_callSpecial?_slot (name := Str.ofString "__next__") hT lr_slotN (wpAny_call_entry lr_slotN hT lr_entN ?_ (lr_argN _))))
  unfold Builtin.«list_reverseiterator.__next__»
  refine wpAny_bind (wpAny_pure (wpAny_bind (wpAny_field ho hd (x := .int (-1) 0) rfl ?_)))
  show wpAny _ _ (if (-1 : Int) < 0 then _ else _) _ _ s
  rw [if_pos (by decide)]
  refine wpAny_bind (wpAny_rule (wpAny_bind (stop_it (A := A.in1) hh fun e h' k ty => ?_)))
  exact wpAny_bind (wpAny_isInstance (b := true) ty isSubtype_stop (wpAny_pure (hQ h' fun b o _ q => k b o q)))
theorem end_revT {it l : Addr} {Q : Option Value → Shared → Prop} (hh : A.handled = none) (hit : RevT s.heap it l (-1)) (hQ : ∀ h', Heap.ExtBut it s.heap h' → Q none { s with heap := h' }) : wpAny (model prog w) A (pyNext (.ref it)) Q E s := by
  obtain ⟨o, ho, hc, hd⟩ := id hit
  have hT : s.TypeIs (.ref it) "reversed" := ⟨o, ho, hc⟩
  unfold pyNext
  refine wpAny_bind (wpAny_attempt (wpAny_callSpecial?_slot (name := Str.ofString "__next__") hT rv_slotN (wpAny_call_entry rv_slotN hT rv_entN ?_ (rv_argN _))))
  unfold Builtin.«reversed.__next__»
  refine wpAny_bind (wpAny_pure (wpAny_bind (wpAny_field ho hd (x := .ref l) rfl (wpAny_bind (wpAny_field ho hd (x := .int (-1) 0) rfl ?_)))))
  show wpAny _ _ (if (-1 : Int) < 0 then _ else _) _ _ s
  rw [if_pos (by decide)]
  refine wpAny_bind (wpAny_rule (wpAny_bind (show wpAny _ _ (setField (.ref it) 1 (rawInt (-1)) >>= fun _ => setField (.ref it) 0 Value.none) _ _ s from wpAny_bind (wpAny_setField ho hd (by simp) ?_))))
  have ho2 := Heap.get?_update_self (h := s.heap) (a := it) (o := o) (fun o => o.mapFields fun vs => vs.set! 1 (rawInt (-1))) ho (Obj.isFreed_of_fields (Obj.data_mapFields hd _))
  have hd2 : (Obj.mapFields (fun vs => vs.set! 1 (rawInt (-1))) o).data = .fields #[.ref l, rawInt (-1)] := by rw [Obj.data_mapFields hd]; simp
  have b1 : Heap.SameBut it s.heap (s.heap.update it fun o => Obj.mapFields (fun vs => vs.set! 1 (rawInt (-1))) o) := Heap.SameBut.update ..
  refine wpAny_setField (s := { s with heap := s.heap.update it fun o => Obj.mapFields (fun vs => vs.set! 1 (rawInt (-1))) o }) ho2 hd2 (by simp) (wpAny_bind (stop_it (A := A.in1) hh fun e h' k ty => ?_))
  refine wpAny_bind (wpAny_isInstance (b := true) ty isSubtype_stop (wpAny_pure (hQ h' fun b o hb q => k b o ?_)))
  exact ((Heap.SameBut.update ..).2 b hb).trans ((b1.2 b hb).trans q)
end
end L2


set_option linter.all false
set_option maxRecDepth 100000
set_option maxHeartbeats 4000000
namespace L2
open PySem PySem.Spec PyProof.Rows
section
variable {prog : Program} {w : World} {A : Around} {E : Value → Shared → Prop} {s : Shared}
end
end L2


set_option linter.all false
set_option maxRecDepth 100000
set_option maxHeartbeats 4000000
namespace L2
open PySem PySem.Spec PyProof.Rows
def Itrl (K : PySem.W.Frag) (a : Addr) (n : Nat) : It :=
  ⟨fun i H => ∃ xs, SqL K H a xs ∧ xs.length = n ∧ i < n, fun i H x H' => H' = H ∧ ∀ xs, SqL K H a xs → xs[n - 1 - i]? = some x, fun i _ => i = n⟩
def Itrt (K : PySem.W.Frag) (a : Addr) (n : Nat) : It :=
  ⟨fun i H => ∃ xs, SqT K H a xs ∧ xs.length = n ∧ i < n, fun i H x H' => H' = H ∧ ∀ xs, SqT K H a xs → xs[n - 1 - i]? = some x, fun i _ => i = n⟩
theorem turn_revL {P : Program} {w : World} {K : PySem.W.Frag} {tg : Expr} (a it : Addr) (n : Nat) : Turn P w K tg (Itrl K a n) [it] it (fun i h => RevL h it a ((n : Int) - 1 - i)) where
  mem := by simp
  obj := fun i h st b hb => by
    have e : b = it := by simpa using hb
    subst e
    obtain ⟨o, e, c, d⟩ := st
    exact ⟨o, e, fun v z => by rw [d] at z; cases z⟩
  keep := fun i h h' st k => by
    obtain ⟨o, e, r⟩ := st
    exact ⟨o, k it (by simp) o e, r⟩
  item := by
    intro X hP hw hK hc i pins s σ H E I hf st hg
    subst hP hw hK
    obtain ⟨xs, hq, hn, hi⟩ := hg
    obtain ⟨its, rv, p, hz⟩ := I.list hq
    have hx : xs[n - 1 - i]? = some xs[n - 1 - i] := List.getElem?_eq_getElem (by omega)
    obtain ⟨u, hu, ru⟩ := rv.get hx
    obtain ⟨f0, f1, f2, f3, f4, f5⟩ := hf it (by simp)
    have e : (n : Int) - 1 - (i : Nat) = ((n - 1 - i : Nat) : Int) := by omega
    rw [e] at st
    refine next_revL st p.isList (x := u) (by simpa using hu) fun h' st' sb => ?_
    have e2 : ((n - 1 - i : Nat) : Int) - 1 = (n : Int) - 1 - ((i + 1 : Nat) : Int) := by omega
    rw [e2] at st'
    have I1 : Inv X pins σ H { s with heap := h' } := I.turned (t' := s.toks) (fun b o hb e => (sb.2 b hb).trans e) f0 f1 f3 f4 f5
    obtain ⟨o, eo, c, d⟩ := id st'
    exact ⟨u, rfl, go_of (s := { s with heap := h' }) eo c d (by decide) ⟨_, H, I1, ru, ⟨rfl, fun ys hy => by rw [I.list_inj hy hq]; exact hx⟩, st', fun b hb => (hf b hb).1⟩⟩
  done := by
    intro X hP hw hK hc i pins s σ H E I hf st hg
    subst hP hw hK hg
    obtain ⟨f0, f1, f2, f3, f4, f5⟩ := hf it (by simp)
    have e : ((i : Nat) : Int) - 1 - (i : Nat) = -1 := by omega
    rw [e] at st
    exact end_revL (I.ok.hd hc) st fun h' eb => ⟨rfl, I.turned (t' := s.toks) (fun b o hb e => eb b o hb e) f0 f1 f3 f4 f5⟩
  self := fun _ _ _ _ _ st h => iter_revL st h
theorem turn_revT {P : Program} {w : World} {K : PySem.W.Frag} {tg : Expr} (a it : Addr) (n : Nat) : Turn P w K tg (Itrt K a n) [it] it (fun i h => RevT h it a ((n : Int) - 1 - i)) where
  mem := by simp
  obj := fun i h st b hb => by
    have e : b = it := by simpa using hb
    subst e
    obtain ⟨o, e, c, d⟩ := st
    exact ⟨o, e, fun v z => by rw [d] at z; cases z⟩
  keep := fun i h h' st k => by
    obtain ⟨o, e, r⟩ := st
    exact ⟨o, k it (by simp) o e, r⟩
  item := by
    intro X hP hw hK hc i pins s σ H E I hf st hg
    subst hP hw hK
    obtain ⟨xs, hq, hn, hi⟩ := hg
    obtain ⟨its, rv, p, hz⟩ := I.tuple hq
    have hx : xs[n - 1 - i]? = some xs[n - 1 - i] := List.getElem?_eq_getElem (by omega)
    obtain ⟨u, hu, ru⟩ := rv.get hx
    obtain ⟨f0, f1, f2, f3, f4, f5⟩ := hf it (by simp)
    have e : (n : Int) - 1 - (i : Nat) = ((n - 1 - i : Nat) : Int) := by omega
    rw [e] at st
    have hlen := rv.length
    have hn63 := line63
    refine next_revT st p (x := u) (by simpa using hu) (by rw [List.size_toArray]; omega) fun h' st' sb => ?_
    have e2 : ((n - 1 - i : Nat) : Int) - 1 = (n : Int) - 1 - ((i + 1 : Nat) : Int) := by omega
    rw [e2] at st'
    have I1 : Inv X pins σ H { s with heap := h', toks := s.toks + 1 } := I.turned (t' := s.toks + 1) (fun b o hb e => (sb.2 b hb).trans e) f0 f1 f3 f4 f5
    obtain ⟨o, eo, c, d⟩ := id st'
    exact ⟨u, rfl, go_of (s := { s with heap := h', toks := s.toks + 1 }) eo c d (by decide) ⟨_, H, I1, ru, ⟨rfl, fun ys hy => by rw [I.tuple_inj hy hq]; exact hx⟩, st', fun b hb => (hf b hb).1⟩⟩
  done := by
    intro X hP hw hK hc i pins s σ H E I hf st hg
    subst hP hw hK hg
    obtain ⟨f0, f1, f2, f3, f4, f5⟩ := hf it (by simp)
    have e : ((i : Nat) : Int) - 1 - (i : Nat) = -1 := by omega
    rw [e] at st
    exact end_revT (I.ok.hd hc) st fun h' eb => ⟨rfl, I.turned (t' := s.toks) (fun b o hb e => eb b o hb e) f0 f1 f3 f4 f5⟩
  self := fun _ _ _ _ _ st h => iter_revT st h
section
variable {X : Cx} {tg : Expr}
def iRevL (K : PySem.W.Frag) (ta : TA) : TI := fun σ H R => ta σ H fun vs H1 => ∃ a xs, vs = [.ref a] ∧ Rd H1 a (.lst xs) ∧ R (Itrl K a xs.length) H1
def iRevT (K : PySem.W.Frag) (ta : TA) : TI := fun σ H R => ta σ H fun vs H1 => ∃ a xs, vs = [.ref a] ∧ SqT K H1 a xs ∧ R (Itrt K a xs.length) H1
theorem pi_revL (K : PySem.W.Frag) (hK : X.K = K) {a : Expr} {ta : TA} {p pos : Pos} (hg : Gl X "reversed") (hm : X.mg "reversed" = none) (ha : PA X [a] ta) (hs : starEach [a] X.env = [(false, eval a X.env)] := by rfl) :
    PI X tg (.Call (.Name "reversed" p) [a] [] pos) (iRevL K ta) := by
  subst hK
  intro pins s σ H R I h
  refine Call_ (ld_blt I hg hm PyProof.Rows.Boot.«reversed» (PyProof.Rows.callWith_type1 (thn (ha pos pins s σ H _ I h) fun us s1 ⟨vs, H1, I1, r1, q1⟩ => ?_) hs rfl))
  obtain ⟨l, xs, rfl, hq, q⟩ := q1
  obtain ⟨u, rfl, ru⟩ := vals1 r1
  cases ru
  obtain ⟨hz, its, n, rv, hl⟩ := (show ObjOk X.prog X.w H1 s1.heap l (.lst xs) from hq.ok I1.hok)
  have hlen : xs.length = its.length := rv.length
  refine call_rev_list hl fun h' hit hk => ?_
  have I2 : Inv X pins σ H1 { s1 with heap := h' } := I1.kept (t' := s1.toks) hk
  refine iter_revL hit ?_
  refine ⟨s1.heap.objs.size, [s1.heap.objs.size], _, _, H1, rfl, I2, turn_revL l _ xs.length, by simpa [hlen] using hit, fun b hb => ?_, q⟩
  have eb : b = s1.heap.objs.size := by simpa using hb
  subst eb
  exact I1.fpOk (Nat.le_refl _) (I1.hok.fresh (Nat.le_refl _))
theorem pi_revT (K : PySem.W.Frag) (hK : X.K = K) {a : Expr} {ta : TA} {p pos : Pos} (hg : Gl X "reversed") (hm : X.mg "reversed" = none) (ha : PA X [a] ta) (hs : starEach [a] X.env = [(false, eval a X.env)] := by rfl) :
    PI X tg (.Call (.Name "reversed" p) [a] [] pos) (iRevT K ta) := by
  subst hK
  intro pins s σ H R I h
  refine Call_ (ld_blt I hg hm PyProof.Rows.Boot.«reversed» (PyProof.Rows.callWith_type1 (thn (ha pos pins s σ H _ I h) fun us s1 ⟨vs, H1, I1, r1, q1⟩ => ?_) hs rfl))
  obtain ⟨l, xs, rfl, hq, q⟩ := q1
  obtain ⟨u, rfl, ru⟩ := vals1 r1
  cases ru
  obtain ⟨its, rv, pl, hz⟩ := I1.tuple hq
  have hlen : xs.length = its.length := rv.length
  have hn63 := line63
  refine call_rev_tuple pl (by rw [List.size_toArray]; omega) fun h' hit hk => ?_
  have I2 : Inv X pins σ H1 { s1 with heap := h', toks := s1.toks + 1 + 1 } := I1.kept (t' := s1.toks + 1 + 1) hk
  refine iter_revT hit ?_
  refine ⟨s1.heap.objs.size, [s1.heap.objs.size], _, _, H1, rfl, I2, turn_revT l _ xs.length, by simpa [hlen] using hit, fun b hb => ?_, q⟩
  have eb : b = s1.heap.objs.size := by simpa using hb
  subst eb
  exact I1.fpOk (Nat.le_refl _) (I1.hok.fresh (Nat.le_refl _))
end
theorem rev_at {xs : List V} {i : Nat} {x : V} (hi : i < xs.length) (h : xs[xs.length - 1 - i]? = some x) : xs.reverse[i]? = some x := by rw [List.getElem?_reverse hi]; exact h
theorem for_revL {K : PySem.W.Frag} {a : Addr} {xs : List V} {g : TG} {tb : TS} {D : Ends} {σ : St} {H : Hp} (Pv : Nat → St → Hp → Prop) (h0 : Pv 0 σ H) (hl : ∀ i σ H, i ≤ xs.length → Pv i σ H → SqL K H a xs)
    (hs : ∀ i x σ H, xs.reverse[i]? = some x → Pv i σ H → g x σ H fun σ2 H2 => tb { D with nx := Pv (i + 1), ct := Pv (i + 1), bk := D.nx } σ2 H2) (hd : ∀ σ H, Pv xs.length σ H → D.nx σ H) :
    ∃ W : Nat → Nat → St → Hp → Prop, (∃ m, W 0 m σ H) ∧ ∀ i m σ H, W i m σ H →
      ((Itrl K a xs.length).stop i H ∧ D.nx σ H) ∨ ((Itrl K a xs.length).go i H ∧ ∃ N : St → Hp → Prop, (∀ σ' H', N σ' H' → ∃ m', m' < m ∧ W (i + 1) m' σ' H') ∧ ∀ x H', (Itrl K a xs.length).yld i H x H' → g x σ H' fun σ2 H2 => tb { D with nx := N, ct := N, bk := D.nx } σ2 H2) := by
  refine ⟨fun i m σ H => m = xs.length - i ∧ i ≤ xs.length ∧ Pv i σ H, ⟨xs.length, by simp, Nat.zero_le _, h0⟩, ?_⟩
  rintro i m σ H ⟨rfl, hi, p⟩
  have q := hl i σ H hi p
  by_cases hlt : i < xs.length
  · refine .inr ⟨⟨xs, q, rfl, hlt⟩, Pv (i + 1), fun σ' H' p' => ⟨xs.length - (i + 1), by omega, rfl, hlt, p'⟩, fun x H' y => ?_⟩
    obtain ⟨e, y⟩ := y
    subst e
    exact hs i x σ _ (rev_at hlt (y xs q)) p
  · have e : i = xs.length := by omega
    subst e
    exact .inl ⟨rfl, hd σ H p⟩
theorem for_revT {K : PySem.W.Frag} {a : Addr} {xs : List V} {g : TG} {tb : TS} {D : Ends} {σ : St} {H : Hp} (Pv : Nat → St → Hp → Prop) (h0 : Pv 0 σ H) (hl : ∀ i σ H, i ≤ xs.length → Pv i σ H → SqT K H a xs)
    (hs : ∀ i x σ H, xs.reverse[i]? = some x → Pv i σ H → g x σ H fun σ2 H2 => tb { D with nx := Pv (i + 1), ct := Pv (i + 1), bk := D.nx } σ2 H2) (hd : ∀ σ H, Pv xs.length σ H → D.nx σ H) :
    ∃ W : Nat → Nat → St → Hp → Prop, (∃ m, W 0 m σ H) ∧ ∀ i m σ H, W i m σ H →
      ((Itrt K a xs.length).stop i H ∧ D.nx σ H) ∨ ((Itrt K a xs.length).go i H ∧ ∃ N : St → Hp → Prop, (∀ σ' H', N σ' H' → ∃ m', m' < m ∧ W (i + 1) m' σ' H') ∧ ∀ x H', (Itrt K a xs.length).yld i H x H' → g x σ H' fun σ2 H2 => tb { D with nx := N, ct := N, bk := D.nx } σ2 H2) := by
  refine ⟨fun i m σ H => m = xs.length - i ∧ i ≤ xs.length ∧ Pv i σ H, ⟨xs.length, by simp, Nat.zero_le _, h0⟩, ?_⟩
  rintro i m σ H ⟨rfl, hi, p⟩
  have q := hl i σ H hi p
  by_cases hlt : i < xs.length
  · refine .inr ⟨⟨xs, q, rfl, hlt⟩, Pv (i + 1), fun σ' H' p' => ⟨xs.length - (i + 1), by omega, rfl, hlt, p'⟩, fun x H' y => ?_⟩
    obtain ⟨e, y⟩ := y
    subst e
    exact hs i x σ _ (rev_at hlt (y xs q)) p
  · have e : i = xs.length := by omega
    subst e
    exact .inl ⟨rfl, hd σ H p⟩

end L2


set_option linter.all false
set_option maxRecDepth 100000
set_option maxHeartbeats 4000000
namespace FR
open PySem L2

inductive RowsG (g : Gram) : List Str → List Nat → Prop
  | nil : RowsG g [] []
  | cons {ns : List Str} {k : Nat} {r : Rule} {row : List Nat} : g[k]? = some r → RowsG g (unQ r.2.1 ++ ns) row → RowsG g (r.1 :: ns) (k :: row)
structure EnOk (g : Gram) (e : Sz) : Prop where
  nd : (e.map (·.1)).Nodup
  ent : ∀ (i : Nat) (z : Str) (k : Int), e[i]? = some (z, k) → ∃ r, 0 ≤ k ∧ g[k.toNat]? = some r ∧ r.1 = z ∧ ∀ p ∈ r.2.1, isQ p = false → p ∈ (e.take i).map (·.1)
def InK (e : Sz) (r : Rule) : Prop := ∀ p ∈ r.2.1, isQ p = false → p ∈ e.map (·.1)
theorem look_some {s : Sz} {z : Str} (h : z ∈ s.map (·.1)) : ∃ v, look s z = some v := by
  cases e : look s z with
  | some v => exact ⟨v, rfl⟩
  | none => exact absurd h (look_none e)
theorem EnOk.nil (g : Gram) : EnOk g [] := ⟨List.nodup_nil, fun i z k e => by cases e⟩
theorem EnOk.snoc {g : Gram} {e : Sz} (h : EnOk g e) {r : Rule} {k : Nat} (hr : g[k]? = some r) (hin : InK e r) (hn : ¬ r.1 ∈ e.map (·.1)) : EnOk g (e ++ [(r.1, (k : Int))]) := by
  refine ⟨?_, fun i z k' he => ?_⟩
  · rw [List.map_append]
    exact nd_snoc h.nd hn
  · by_cases hi : i < e.length
    · rw [List.getElem?_append_left hi] at he
      obtain ⟨r', h1, h2, h3, h4⟩ := h.ent i z k' he
      refine ⟨r', h1, h2, h3, fun p hp hq => ?_⟩
      rw [List.take_append_of_le_length (by omega)]
      exact h4 p hp hq
    · have hi2 : i = e.length := by
        have := (List.getElem?_eq_some_iff.mp he).1
        rw [List.length_append] at this
        simp at this
        omega
      subst hi2
      rw [List.getElem?_append_right (Nat.le_refl _), Nat.sub_self] at he
      cases he
      refine ⟨r, Int.natCast_nonneg _, by rw [Int.toNat_natCast]; exact hr, rfl, fun p hp hq => ?_⟩
      rw [List.take_append_of_le_length (Nat.le_refl _), List.take_length]
      exact hin p hp hq

def openB (g : Gram) (e : Sz) (z : Str) (k : Nat) : Bool := match g[k]? with
  | none => false
  | some r => decide (r.1 = z) && r.2.1.all fun p => isQ p || (look e p).isSome
def openL (g : Gram) (e : Sz) (z : Str) (n : Nat) : List Nat := (List.range n).filter (openB g e z)
theorem openL_mem {g : Gram} {e : Sz} {z : Str} {n k : Nat} (h : k ∈ openL g e z n) : ∃ r, g[k]? = some r ∧ r.1 = z ∧ InK e r := by
  obtain ⟨_, hb⟩ := List.mem_filter.mp h
  unfold openB at hb
  cases hr : g[k]? with
  | none => rw [hr] at hb; cases hb
  | some r =>
    rw [hr] at hb
    have hb : (decide (r.1 = z) && r.2.1.all fun p => isQ p || (look e p).isSome) = true := hb
    rw [Bool.and_eq_true, decide_eq_true_eq] at hb
    refine ⟨r, rfl, hb.1, fun p hp hq => ?_⟩
    have := List.all_eq_true.mp hb.2 p hp
    rw [hq, Bool.false_or] at this
    obtain ⟨v, hv⟩ := Option.isSome_iff_exists.mp this
    exact List.mem_map.mpr ⟨_, look_mem hv, rfl⟩
theorem openL_of {g : Gram} {e : Sz} {z : Str} {k : Nat} {r : Rule} (hr : g[k]? = some r) (hz : r.1 = z) (hin : InK e r) : k ∈ openL g e z g.length := by
  have hlt := (List.getElem?_eq_some_iff.mp hr).1
  refine List.mem_filter.mpr ⟨List.mem_range.mpr hlt, ?_⟩
  unfold openB
  rw [hr]
  show (decide (r.1 = z) && r.2.1.all fun p => isQ p || (look e p).isSome) = true
  rw [decide_eq_true hz, Bool.true_and, List.all_eq_true]
  intro p hp
  cases hq : isQ p with
  | true => rfl
  | false =>
    obtain ⟨v, hv⟩ := look_some (hin p hp hq)
    rw [hv]
    rfl
end FR


set_option linter.all false
set_option maxRecDepth 100000
set_option maxHeartbeats 4000000
namespace L2
open PySem PySem.Spec PyProof.Rows
section
variable {prog : Program} {w : World} {A : Around} {E : Value → Shared → Prop} {s : Shared}
end

section
variable {X : Cx} {elts : List Expr} {k : Nat} {tpos : Pos}
end
end L2


set_option linter.all false
set_option maxRecDepth 100000
set_option maxHeartbeats 4000000
namespace FR
open PySem L2
def nV (k : Nat) : V := .int (k : Int)
def chV (c : Nat) : V := .str ⟨#[c]⟩
theorem rule_parts {r : Rule} (h : okRule r = true) : r.2.1.length ≤ 6 ∧ ∀ p ∈ r.2.1, isPartS p = true := by
  unfold okRule at h
  simp only [Bool.and_eq_true, decide_eq_true_eq] at h
  exact ⟨h.2.1.1, List.all_eq_true.mp h.2.1.2⟩
theorem rule_head {r : Rule} (h : okRule r = true) : isNameS r.1 = true := by
  unfold okRule at h
  rw [Bool.and_eq_true] at h
  exact h.1
theorem decS {x y : Str} : decide (V.str x = V.str y) = decide (x = y) := by
  by_cases h : x = y
  · rw [decide_eq_true h, decide_eq_true (by rw [h])]
  · rw [decide_eq_false h, decide_eq_false (fun e => h (V.str.inj e))]
theorem isQ_code (z : Str) : isQ z = decide (z.cps.toList[0]? = some 39) := by
  have e0 : (("'" : Str)) = ⟨#[39]⟩ := by decide +kernel
  unfold isQ
  rw [e0, Bool.eq_iff_iff, decide_eq_true_eq]
  have := StrLaws.subAt_one z 39 0
  unfold Txt.startswith
  rw [Bool.and_eq_true, decide_eq_true_eq]
  exact this
theorem part_first {p : Str} (h : isPartS p = true) : ∃ c, atI p.cps.toList 0 = some c ∧ p.length ≤ 8 ∧ decide (V.str ⟨#[c]⟩ = V.str "'") = isQ p := by
  have h8 := part_len h
  have h1 : 0 < p.cps.toList.length := by
    rw [Array.length_toList]
    unfold isPartS at h
    rw [Bool.or_eq_true] at h
    rcases h with h | h
    · unfold isSignS at h
      rw [Bool.and_eq_true, Bool.and_eq_true] at h
      have : p.cps.size = 2 := eq_of_beq h.1.1
      omega
    · unfold isNameS at h
      rw [Bool.and_eq_true, Bool.and_eq_true] at h
      have : 1 ≤ p.cps.size := of_decide_eq_true h.1.1
      omega
  have e : p.cps.toList[0]? = some p.cps.toList[0] := List.getElem?_eq_getElem h1
  refine ⟨p.cps.toList[0], atI_nat (j := 0) e, h8, ?_⟩
  rw [isQ_code, e, decS]
  have e0 : (("'" : Str)) = ⟨#[39]⟩ := by decide +kernel
  rw [e0]
  by_cases hc : p.cps.toList[0] = 39
  · rw [decide_eq_true (by rw [hc]), decide_eq_true (by rw [hc])]
  · rw [decide_eq_false (fun z => hc (by injection z with z; simpa using z)), decide_eq_false (fun z => hc (Option.some.inj z))]
theorem sign_second {p : Str} (h : isPartS p = true) (hq : isQ p = true) : atI p.cps.toList 1 = some (sgn p) := by
  unfold isPartS at h
  rw [Bool.or_eq_true] at h
  rcases h with h | h
  · unfold isSignS at h
    rw [Bool.and_eq_true, Bool.and_eq_true] at h
    have h2 : p.cps.size = 2 := eq_of_beq h.1.1
    have h1 : 1 < p.cps.toList.length := by rw [Array.length_toList]; omega
    have e : p.cps.toList[1]? = some p.cps.toList[1] := List.getElem?_eq_getElem h1
    have e2 : sgn p = p.cps.toList[1] := by
      unfold sgn
      rw [Array.getD_eq_getD_getElem?, ← Array.getElem?_toList, e]
      rfl
    rw [e2]
    exact atI_nat (j := 1) e
  · rw [isQ_code] at hq
    have hq := of_decide_eq_true hq
    unfold isNameS at h
    rw [Bool.and_eq_true] at h
    exact absurd (List.all_eq_true.mp h.2 39 (List.mem_of_getElem? hq)) (by decide)
theorem name_noQ {z : Str} (h : isNameS z = true) : isQ z = false := by
  rw [isQ_code]
  refine decide_eq_false fun e => ?_
  unfold isNameS at h
  rw [Bool.and_eq_true] at h
  exact absurd (List.all_eq_true.mp h.2 39 (List.mem_of_getElem? e)) (by decide)
theorem name_partB {z : Str} (h : isNameS z = true) : isPartS z = true := by
  unfold isPartS
  rw [h, Bool.or_true]
theorem rule_okB {g : Gram} {r : Rule} {i : Nat} (hg : okGram g = true) (er : g[i]? = some r) : okRule r = true := by
  unfold okGram at hg
  rw [Bool.and_eq_true] at hg
  exact List.all_eq_true.mp hg.2 r (List.mem_of_getElem? er)

theorem rule_num {H : Hp} {xs : List V} {g : Gram} (hds : Dens H xs (g.map ruleD)) {k : Nat} {r : Rule} (er : g[k]? = some r) : ∃ t p, atI xs (k : Int) = some (.ref t) ∧ H t = some (.tup [.str r.1, .ref p, .int r.2.2]) ∧ H p = some (.tup (r.2.1.map V.str)) := by
  have hxl : xs.length = g.length := by rw [hds.len, List.length_map]
  have hkx : k < xs.length := by rw [hxl]; exact (List.getElem?_eq_some_iff.mp er).1
  have hix : xs[k]? = some xs[k] := List.getElem?_eq_getElem hkx
  obtain ⟨r', t, p, er', ey', ht, hpp⟩ := rule_at hds hix
  rw [er] at er'
  cases er'
  exact ⟨t, p, by rw [← ey']; exact atI_nat hix, ht, hpp⟩
structure RdEnv (H : Hp) (l ro : Addr) (xs ys : List V) (g : Gram) (ds : List D) : Prop where
  hl : H l = some (.lst xs)
  hds : Dens H xs (g.map ruleD)
  hg : okGram g = true
  hro : Rd H ro (.lst ys)
  hys : Dens H ys ds
  hsh : ∀ d ∈ ds, d.short = true
  hlen : ds.length ≤ 2000
theorem rd_sameB {H H' : Hp} {a : Addr} {o : HO} (h : Rd H a o) (s : Same H H') : Rd H' a o := by
  rcases h with h | ⟨u, h⟩
  · exact .inl (s _ _ h)
  · exact .inr ⟨u, s _ _ h⟩
theorem RdEnv.same {H H' : Hp} {l ro : Addr} {xs ys : List V} {g : Gram} {ds : List D} (h : RdEnv H l ro xs ys g ds) (s : Same H H') : RdEnv H' l ro xs ys g ds := ⟨s _ _ h.hl, h.hds.same s, h.hg, rd_sameB h.hro s, h.hys.same s, h.hsh, h.hlen⟩
def fldR (l ro a1 a2 a3 : Addr) : List (Str × V) := [("rules", .ref l), ("row", .ref ro), ("signs", .ref a1), ("begins", .ref a2), ("stops", .ref a3)]
structure RdSt (C : Addr) (H0 H : Hp) (x l ro a1 a2 a3 : Addr) (rd : Rdg) : Prop where
  sm : Same H0 H
  pl : Plain H
  x_ : ∃ dx, H0 x = some (.ins C dx (fldR l ro a1 a2 a3))
  n1 : H0 a1 = none
  n2 : H0 a2 = none
  n3 : H0 a3 = none
  d12 : a1 ≠ a2
  d13 : a1 ≠ a3
  d23 : a2 ≠ a3
  e1 : H a1 = some (.lst (rd.sg.map chV))
  e2 : H a2 = some (.lst (rd.bg.map nV))
  e3 : H a3 = some (.lst (rd.st.map nV))

def nextR (g : Gram) (ds : List D) (n : Nat) (z : Str) : Option (Nat × Rule) := match ds[n]? with
  | some (.int i) => if 0 ≤ i then (match g[i.toNat]? with
    | some r => if r.1 = z then some (i.toNat, r) else none
    | none => none) else none
  | _ => none
theorem RdSt.put {C : Addr} {H0 H : Hp} {x l ro a1 a2 a3 : Addr} {rd : Rdg} (st : RdSt C H0 H x l ro a1 a2 a3 rd) {b : Addr} {o : HO} (h0 : H0 b = none) (b1 : b ≠ a1) (b2 : b ≠ a2) (b3 : b ≠ a3) (po : plainH o = true) : RdSt C H0 (upd H b o) x l ro a1 a2 a3 rd :=
  ⟨st.sm.put h0, st.pl.upd po, st.x_, st.n1, st.n2, st.n3, st.d12, st.d13, st.d23, by rw [upd_ne b1.symm]; exact st.e1, by rw [upd_ne b2.symm]; exact st.e2, by rw [upd_ne b3.symm]; exact st.e3⟩
theorem RdSt.new {C : Addr} {H0 H : Hp} {x l ro a1 a2 a3 : Addr} {rd : Rdg} (st : RdSt C H0 H x l ro a1 a2 a3 rd) {b : Addr} {o : HO} (h0 : H b = none) (po : plainH o = true) : RdSt C H0 (upd H b o) x l ro a1 a2 a3 rd :=
  st.put (st.sm.free h0) (fun e => by rw [e, st.e1] at h0; cases h0) (fun e => by rw [e, st.e2] at h0; cases h0) (fun e => by rw [e, st.e3] at h0; cases h0) po
theorem RdSt.set1 {C : Addr} {H0 H : Hp} {x l ro a1 a2 a3 : Addr} {rd : Rdg} (st : RdSt C H0 H x l ro a1 a2 a3 rd) (sg : List Nat) : RdSt C H0 (upd H a1 (.lst (sg.map chV))) x l ro a1 a2 a3 ⟨sg, rd.bg, rd.st⟩ :=
  ⟨st.sm.put st.n1, st.pl.upd rfl, st.x_, st.n1, st.n2, st.n3, st.d12, st.d13, st.d23, upd_same, by rw [upd_ne st.d12.symm]; exact st.e2, by rw [upd_ne st.d13.symm]; exact st.e3⟩
theorem RdSt.set2 {C : Addr} {H0 H : Hp} {x l ro a1 a2 a3 : Addr} {rd : Rdg} (st : RdSt C H0 H x l ro a1 a2 a3 rd) (bg : List Nat) : RdSt C H0 (upd H a2 (.lst (bg.map nV))) x l ro a1 a2 a3 ⟨rd.sg, bg, rd.st⟩ :=
  ⟨st.sm.put st.n2, st.pl.upd rfl, st.x_, st.n1, st.n2, st.n3, st.d12, st.d13, st.d23, by rw [upd_ne st.d12]; exact st.e1, upd_same, by rw [upd_ne st.d23.symm]; exact st.e3⟩
theorem RdSt.set3 {C : Addr} {H0 H : Hp} {x l ro a1 a2 a3 : Addr} {rd : Rdg} (st : RdSt C H0 H x l ro a1 a2 a3 rd) (sp : List Nat) : RdSt C H0 (upd H a3 (.lst (sp.map nV))) x l ro a1 a2 a3 ⟨rd.sg, rd.bg, sp⟩ :=
  ⟨st.sm.put st.n3, st.pl.upd rfl, st.x_, st.n1, st.n2, st.n3, st.d12, st.d13, st.d23, by rw [upd_ne st.d13]; exact st.e1, by rw [upd_ne st.d23]; exact st.e2, upd_same⟩
theorem fin_nil0 (g : Gram) (s : Rdg) : fin g [] s [] = some s := by rw [fin]
theorem fin_mark (g : Gram) (k : Nat) (ws : List Wait) (s : Rdg) (ds : List D) : fin g (.inr k :: ws) s ds = fin g ws ⟨s.sg, s.bg, s.st.set k s.sg.length⟩ ds := by rw [fin]
theorem fin_sign {g : Gram} {p : Str} (hq : isQ p = true) (ws : List Wait) (s : Rdg) (ds : List D) : fin g (.inl p :: ws) s ds = fin g ws ⟨s.sg ++ [sgn p], s.bg, s.st⟩ ds := by rw [fin.eq_def]; exact if_pos hq
theorem fin_name {g : Gram} {p : Str} (hq : isQ p = false) (ws : List Wait) (s : Rdg) (ds : List D) (n : Nat) : fin g (.inl p :: ws) s (ds.drop n) = match nextR g ds n p with
    | none => none
    | some (_, r) => fin g (r.2.1.map Sum.inl ++ (Sum.inr s.bg.length :: ws)) ⟨s.sg, s.bg ++ [s.sg.length], s.st ++ [s.sg.length]⟩ (ds.drop (n + 1)) := by
  unfold nextR
  cases hd : ds[n]? with
  | none =>
    have : ds.length ≤ n := List.getElem?_eq_none_iff.mp hd
    rw [List.drop_eq_nil_of_le this, fin, hq]
    rfl
  | some d =>
    obtain ⟨hn, ed⟩ := List.getElem?_eq_some_iff.mp hd
    rw [List.drop_eq_getElem_cons hn, ed, fin, hq]
    cases d with
    | int i =>
      unfold numD
      by_cases h0 : 0 ≤ i
      · simp only [h0, if_true, Bool.false_eq_true, if_false]
        cases hg : g[i.toNat]? with
        | none => rfl
        | some r =>
          by_cases hz : r.1 = p
          · simp [hz]
          · simp [hz]
      · simp [h0]
    | _ => rfl
inductive RowS (g : Gram) : List Str → List Nat → List Nat → Prop
  | nil : RowS g [] [] []
  | sign {p : Str} {ws : List Str} {ks sg : List Nat} : isQ p = true → RowS g ws ks sg → RowS g (p :: ws) ks (sgn p :: sg)
  | name {r : Rule} {ws : List Str} {k : Nat} {ks sg : List Nat} : isQ r.1 = false → g[k]? = some r → RowS g (r.2.1 ++ ws) ks sg → RowS g (r.1 :: ws) (k :: ks) sg
def strip : List Wait → List Str
  | [] => []
  | .inl p :: ws => p :: strip ws
  | .inr _ :: ws => strip ws
theorem strip_app (ps : List Str) (ws : List Wait) : strip (ps.map Sum.inl ++ ws) = ps ++ strip ws := by
  induction ps with
  | nil => rfl
  | cons p ps ih => show p :: strip (ps.map Sum.inl ++ ws) = p :: (ps ++ strip ws); rw [ih]
def intD (k : Nat) : D := .int (k : Int)
theorem RowS.fin {g : Gram} : ∀ (n : Nat) (ws : List Wait) (s : Rdg) (ks sg : List Nat), 8 * ks.length + ws.length ≤ n → (∀ r ∈ g, r.2.1.length ≤ 6) → RowS g (strip ws) ks sg → ∃ rd, FR.fin g ws s (ks.map intD) = some rd ∧ rd.sg = s.sg ++ sg := by
  intro n
  induction n with
  | zero =>
    intro ws s ks sg hn _ h
    have e1 : ws = [] := List.eq_nil_of_length_eq_zero (by omega)
    have e2 : ks = [] := List.eq_nil_of_length_eq_zero (by omega)
    subst e1 e2
    have h : RowS g [] [] sg := h
    cases h
    exact ⟨s, fin_nil0 _ _, by rw [List.append_nil]⟩
  | succ n ih =>
    intro ws s ks sg hn h6 h
    cases ws with
    | nil =>
      have h : RowS g [] ks sg := h
      cases h
      exact ⟨s, fin_nil0 _ _, by rw [List.append_nil]⟩
    | cons w ws =>
      rw [List.length_cons] at hn
      cases w with
      | inr k =>
        rw [fin_mark]
        exact ih ws _ ks sg (by omega) h6 h
      | inl p =>
        have h : RowS g (p :: strip ws) ks sg := h
        generalize hz : p :: strip ws = zs at h
        cases h with
        | nil => cases hz
        | @sign p' ws' ks sg' hq h =>
          cases hz
          rw [fin_sign hq]
          obtain ⟨rd, e1, e2⟩ := ih ws ⟨s.sg ++ [sgn p], s.bg, s.st⟩ ks sg' (by omega) h6 h
          exact ⟨rd, e1, by rw [e2, List.append_assoc]; rfl⟩
        | @name r ws' k ks' sg hq er h =>
          cases hz
          have := fin_name (g := g) hq ws s ((k :: ks').map intD) 0
          rw [List.drop_zero] at this
          rw [this]
          have hnx : nextR g ((k :: ks').map intD) 0 r.1 = some (k, r) := by
            unfold nextR
            show (if (0 : Int) ≤ (k : Int) then _ else none) = _
            rw [if_pos (by omega)]
            simp only [Int.toNat_natCast, er, if_true]
          rw [hnx]
          have h' : RowS g (strip (r.2.1.map Sum.inl ++ (Sum.inr s.bg.length :: ws))) ks' sg := by rw [strip_app]; exact h
          have := h6 r (List.mem_of_getElem? er)
          exact ih _ _ ks' sg (by simp only [List.length_append, List.length_map, List.length_cons] at hn ⊢; omega) h6 h'
theorem RowS.more {g h : Gram} {ws : List Str} {ks sg : List Nat} (r : RowS g ws ks sg) : RowS (g ++ h) ws ks sg := by
  induction r with
  | nil => exact .nil
  | sign hq _ ih => exact .sign hq ih
  | name hq er _ ih => exact .name hq (by rw [List.getElem?_append_left (List.getElem?_eq_some_iff.mp er).1]; exact er) ih
end FR


set_option linter.all false
set_option maxRecDepth 100000
set_option maxHeartbeats 4000000
namespace L2
open PySem PySem.Spec PyProof.Rows
section
variable {X : Cx} {pins : List (Addr × Obj)} {σ : St} {H : Hp} {s : Shared} {a b : Addr} {kvs : List (List Key × V)} {k : List Key} {u r : Value} {v : V} {A : Around} {E : Value → Shared → Prop}

theorem wpAny_setDef_heap {prog : Program} {w : World} {d a : Addr} {xs : List (List Key × Addr × Value)} {k : List Key} {v : Value} {Q : Value → Shared → Prop} (hu : (tupleKind (mixKind prog w)).room A) (hkey : (tupleKind (mixKind prog w)).is s.heap k a) (hm : s.heap.DictOfH (tupleKind (mixKind prog w)) d xs)
    (hT : ∀ p, atKey xs k = some p → Q p.2 { s with toks := s.toks + (tupleKind (mixKind prog w)).draws k })
    (hN : atKey xs k = none → ∀ h', h'.DictOfH (tupleKind (mixKind prog w)) d (storedH xs k a v) → Heap.SameBut d s.heap h' → Q v { s with heap := h', toks := s.toks + (tupleKind (mixKind prog w)).draws k })
    (hsz : xs.length ≤ sizeLine) : wpAny (model prog w) A (dictSetDefault d (.ref a) v) Q E s := by
  obtain ⟨o, es, ep, ho, hc, hd, he, his, hn⟩ := hm
  unfold dictSetDefault
  try with_reducible refine wpAny_holding ?_
  refine wpAny_bind ((tupleKind (mixKind prog w)).pyHash hu hkey (wpAny_bind (wpAny_dictFind_heap (s := { s with toks := s.toks + (tupleKind (mixKind prog w)).draws k }) hu hkey ho hd he his hn ?_ ?_)))
  · intro hno
    have hnot : k ∉ xs.map (·.1) := not_mem_keys_of_get hno
    refine wpAny_bind (wpAny_rule (wpAny_bind (wpAny_updateDictKeys (hz := by have e := size_of_entries he; omega) (s := { s with toks := s.toks + (tupleKind (mixKind prog w)).draws k }) ho hd (wpAny_pure (hN (atKey_none_of_get hno) _ ⟨_, _, ep + 1, Heap.get?_update_self _ ho (Obj.isFreed_of_dict (Obj.data_mapDictKeys hd _)),
      hc.mapDictKeys _, Obj.data_mapDictKeys hd _, ?_, ?_, ?_⟩ (Heap.SameBut.update ..))))))
    · rw [storedH_new (atKey_none_of_get hno)]
      simp [he, entryOfKey]
    · rw [storedH_new (atKey_none_of_get hno)]
      intro x hx
      rcases List.mem_append.mp hx with hx | hx
      · exact (tupleKind (mixKind prog w)).keeps (his x hx) ho hd (Heap.SameBut.update ..)
      · cases List.mem_singleton.mp hx
        exact (tupleKind (mixKind prog w)).keeps hkey ho hd (Heap.SameBut.update ..)
    · rw [storedH_new (atKey_none_of_get hno), List.map_append, List.nodup_append]
      refine ⟨hn, by simp, fun x hx y hy e => ?_⟩
      cases List.mem_singleton.mp hy
      exact hnot (by rw [show k = x from e.symm]; exact hx)
  · intro j p hj
    refine wpAny_bind (wpAny_dictEntries (s := { s with toks := s.toks + (tupleKind (mixKind prog w)).draws k }) ho hd ?_)
    rw [entry_at he j, hj]
    exact wpAny_bind (wpAny_rule (wpAny_pure (hT _ (atKey_of_get hn hj))))
theorem d_setDef {Q : Value → Shared → Prop} (hu : A.units + 1 < cLine) (I : Inv X pins σ H s) (e : H a = some (.dT kvs)) (eb : H b = some (.tup (k.map kV))) (rv : RelV v r) (hl : kvs.length < sizeLine)
    (hT : ∀ w v' s', valV kvs k = some v' → Inv X pins σ H s' → RelV v' w → Q w s') (hN : valV kvs k = none → ∀ s', Inv X pins σ (upd H a (.dT (putK kvs k v))) s' → Q r s') :
    wpAny (model X.prog X.w) A (call (.builtin "dict.setdefault") [.ref a, .ref b, r]) Q E s := by
  obtain ⟨z, hd, xs, rel, dd⟩ := dt_of I.hok e
  have hz : xs.length ≤ sizeLine := by rw [← Paired.length rel]; exact z
  have hl2 : (putK kvs k v).length ≤ sizeLine := by have := length_putK kvs k v; omega
  refine wpAny_call_entry PySem.F.slot_dict_setdefault dd.typeIs PySem.F.entry_dict_setdefault ?_ (PySem.F.args_dict_setdefault_3 _ _ _)
  unfold Builtin.«dict.setdefault»
  refine wpAny_bind ?_
  unfold Builtin.Dict.keyAndDefault
  refine wpAny_bind (wpAny_notOrdered_dict dd.typeIs ?_)
  show wpAny _ _ (pure (a, Value.ref b, some r)) _ _ s
  refine wpAny_pure ?_
  show wpAny _ _ (if (a == sysModules) = true then _ else (dictSetDefault a (.ref b) r >>= _)) _ _ s
  rw [if_neg (by rw [hd]; exact Bool.false_ne_true)]
  refine wpAny_bind (wpAny_setDef_heap (tupleKind_room_in1 hu) (key_of I.hok eb) dd (fun p hp => wpAny_pure ⟨_, rfl, ?_⟩) (fun hn h' dd' hs => wpAny_pure ⟨_, rfl, ?_⟩) hz)
  · have rl := rel.val k
    rw [hp] at rl
    cases hv : valV kvs k with
    | none => rw [hv] at rl; exact rl.elim
    | some v' => rw [hv] at rl; exact hT _ v' _ hv (I.tok _) rl
  · have rl := rel.val k
    rw [hn] at rl
    cases hv : valV kvs k with
    | some v' => rw [hv] at rl; exact rl.elim
    | none =>
      obtain ⟨q, es, ep, hq, h2, h3, h4, _, h5⟩ := dd'
      refine hN hv _ (d_write I (by rw [e]; exact True.intro) hs ⟨q, hq⟩ ⟨hl2, hd, _, (rel.put k eb rv).keeps fun c ys ec => ?_, q, es, ep, hq, h2, h3, h4, h5⟩)
      rw [upd_ne (ne_of ec e (fun z => nomatch z))]
      exact ec
end

def tDSetD (td ty tx : TE) : TE := fun σ H Q => td σ H fun x H1 => ∃ a, x = .ref a ∧ IsD H1 a ∧ ty σ H1 fun y H2 => tx σ H2 fun z H3 => ∃ kvs k b, H3 a = some (.dT kvs) ∧ y = .ref b ∧ H3 b = some (.tup (k.map kV)) ∧ kvs.length < sizeLine ∧
  (∀ v, valV kvs k = some v → Q v H3) ∧ (valV kvs k = none → Q z (upd H3 a (.dT (putK kvs k z))))
section
variable {X : Cx} {o e f : Expr} {apos cpos : Pos} {td ty tx : TE}
theorem pe_dsetd (hu : X.A.units + 1 < cLine) (ho : PE X o td) (he : PE X e ty) (hf : PE X f tx) (m : M2 X o "setdefault" apos e f cpos) : PE X (.Call (.Attribute o "setdefault" apos) [e, f] [] cpos) (tDSetD td ty tx) := by
  intro pins s σ H Q I h
  refine wpAny_Call_method m.base m.few m.line PySem.F.plainAttrs_dict PySem.F.slot_dict_setdefault PySem.F.type_dict_setdefault (thn (ho pins s σ H _ I h) fun u s1 ⟨x, H1, I1, rx, a, ex, d, q1⟩ => ?_)
  subst ex
  obtain rfl : u = Value.ref a := rx
  obtain ⟨t1, t2, _⟩ := isD_at I1 d
  refine ⟨t1, t2, ?_⟩
  rw [m.trees]
  refine Calls.callWith_builtin rfl (Calls.evalArgs_plain (Calls.spliced_cons (thn (he pins s1 σ H1 _ I1 q1) fun iv s2 ⟨y, H2, I2, ry, q2⟩ =>
    Calls.spliced_cons (thn (hf pins s2 σ H2 _ I2 q2) fun fv s3 ⟨z, H3, I3, rz, kvs, k, b, e1, ey, e2, hl, hT, hN⟩ => Calls.spliced_nil ?_))))
  subst ey
  cases (show iv = Value.ref b from ry)
  exact d_setDef hu I3 e1 e2 rz hl (fun w' v' s4 hv I4 rw' => ⟨_, H3, I4, rw', hT v' hv⟩) fun hn s4 I4 => ⟨_, _, I4, rz, hN hn⟩
end
theorem ps_fldaugK (K : PySem.W.Frag) {X : Cx} (hK : X.K = K) {o value : Expr} {f : Str} {tpos pos : Pos} {ta tv : TE} {op : Operator} {rd : V → V → Hp → VK → Prop} (ha : PE X o ta) (hv : PE X value tv) (hop : InOp X op rd) : PS X (.AugAssign (.Attribute o f tpos) op value pos) (sFldAug K ta tv rd f) := by subst hK; exact ps_fldaug ha hv hop
end L2


set_option linter.all false
set_option maxRecDepth 100000
set_option maxHeartbeats 4000000
namespace FR
open PySem L2
inductive Nd where
  | part (p : Str) (i j : Nat)
  | beg (r d i j : Nat)
deriving DecidableEq
def keyN : Nd → List Key
  | .part p i j => [.inr p, .inl (i : Int), .inl (j : Int)]
  | .beg r d i j => [.inl (r : Int), .inl (d : Int), .inl (i : Int), .inl (j : Int)]
theorem keyN_inj {x y : Nd} (h : keyN x = keyN y) : x = y := by
  cases x <;> cases y <;> simp only [keyN, List.cons.injEq, Sum.inl.injEq, Sum.inr.injEq, Int.ofNat_inj, and_true, reduceCtorEq, and_false, false_and] at h
  · obtain ⟨h1, h2, h3⟩ := h; rw [h1, h2, h3]
  · obtain ⟨h1, h2, h3, h4⟩ := h; rw [h1, h2, h3, h4]
abbrev Hs := List (Nd × Nat)
def hsD (hs : Hs) : List (List Key × V) := hs.map fun q => (keyN q.1, .int (q.2 : Int))
def lookN (hs : Hs) (x : Nd) : Option Nat := (hs.find? fun q => decide (q.1 = x)).map (·.2)
theorem valV_hs (x : Nd) : ∀ hs : Hs, valV (hsD hs) (keyN x) = (lookN hs x).map fun n : Nat => V.int (n : Int)
  | [] => rfl
  | q :: hs => by
    have ih := valV_hs x hs
    show valV ((keyN q.1, V.int (q.2 : Int)) :: hsD hs) (keyN x) = _
    by_cases e : q.1 = x
    · rw [valV_pos (by rw [e])]
      unfold lookN
      rw [List.find?_cons_of_pos (by exact decide_eq_true e)]
      rfl
    · rw [valV_neg (fun z => e (keyN_inj z)), ih]
      unfold lookN
      rw [List.find?_cons_of_neg (by simp [e])]
theorem look_snoc (hs : Hs) (x y : Nd) (n : Nat) (h : lookN hs y = none) : lookN (hs ++ [(y, n)]) x = if x = y then some n else lookN hs x := by
  unfold lookN at h ⊢
  rw [List.find?_append]
  by_cases e : x = y
  · subst e
    have : hs.find? (fun q => decide (q.1 = x)) = none := by simpa using h
    rw [this, if_pos rfl]
    simp
  · rw [if_neg e]
    have : [((y, n) : Nd × Nat)].find? (fun q => decide (q.1 = x)) = none := by
      rw [List.find?_cons_of_neg (by rw [decide_eq_true_eq]; exact fun z => e z.symm)]
      rfl
    rw [this, Option.or_none]
theorem put_hs {hs : Hs} {x : Nd} (n : Nat) (h : lookN hs x = none) : putK (hsD hs) (keyN x) (.int (n : Int)) = hsD (hs ++ [(x, n)]) := by
  rw [putK_new _ (by rw [valV_hs, h]; rfl)]
  unfold hsD
  rw [List.map_append]
  rfl
theorem look_memN {hs : Hs} {x : Nd} {n : Nat} (h : lookN hs x = some n) : x ∈ hs.map (·.1) := by
  unfold lookN at h
  obtain ⟨q, hq, rfl⟩ := Option.map_eq_some_iff.mp h
  have := List.find?_some hq
  exact List.mem_map.mpr ⟨q, List.mem_of_find?_eq_some hq, of_decide_eq_true this⟩
theorem look_isN {hs : Hs} {x : Nd} (h : x ∈ hs.map (·.1)) : ∃ n, lookN hs x = some n := by
  cases e : lookN hs x with
  | some n => exact ⟨n, rfl⟩
  | none =>
    unfold lookN at e
    rw [Option.map_eq_none_iff, List.find?_eq_none] at e
    obtain ⟨q, hq, rfl⟩ := List.mem_map.mp h
    exact absurd (decide_eq_true rfl) (e q hq)
theorem nodup_lenD : ∀ {l m : List Nd}, l.Nodup → (∀ x ∈ l, x ∈ m) → l.length ≤ m.length
  | [], _, _, _ => Nat.zero_le _
  | x :: l, m, h, hm => by
    have hx := hm x List.mem_cons_self
    have hnd := List.nodup_cons.mp h
    have ih := nodup_lenD (l := l) (m := m.erase x) hnd.2 fun y hy => (List.mem_erase_of_ne fun e => hnd.1 (by rw [← e]; exact hy)).mpr (hm y (List.mem_cons_of_mem _ hy))
    rw [List.length_erase_of_mem hx] at ih
    have : 0 < m.length := List.length_pos_of_mem hx
    rw [List.length_cons]
    omega

def partAt (g : Gram) (r d : Nat) : Option Str := (g[r]?).bind fun ru => ru.2.1[d]?
def sgnP (c : Nat) : Str := ("'" : Str) ++ ⟨#[c]⟩

def allN (g : Gram) (cs : List Nat) : List Nd := (List.range (cs.length + 1)).flatMap fun i => (List.range (cs.length + 1)).flatMap fun j =>
  (g.map (·.1) ++ cs.map sgnP).map (fun p => Nd.part p i j) ++ (List.range g.length).flatMap fun r => (List.range 7).map fun d => Nd.beg r d i j
def Leg (g : Gram) (cs : List Nat) : Nd → Prop
  | .part p i j => (p ∈ g.map (·.1) ∨ ∃ c, cs[i]? = some c ∧ p = sgnP c ∧ j = i + 1) ∧ i ≤ j ∧ j ≤ cs.length
  | .beg r d i j => (∃ ru, g[r]? = some ru ∧ d ≤ ru.2.1.length) ∧ i ≤ j ∧ j ≤ cs.length
theorem leg_all {g : Gram} {cs : List Nat} (h6 : ∀ ru ∈ g, ru.2.1.length ≤ 6) {x : Nd} (h : Leg g cs x) : x ∈ allN g cs := by
  unfold allN
  cases x with
  | part p i j =>
    obtain ⟨hp, hij, hj⟩ := h
    refine List.mem_flatMap.mpr ⟨i, List.mem_range.mpr (by omega), List.mem_flatMap.mpr ⟨j, List.mem_range.mpr (by omega), List.mem_append_left _ (List.mem_map.mpr ⟨p, ?_, rfl⟩)⟩⟩
    rcases hp with hp | ⟨c, hc, rfl, _⟩
    · exact List.mem_append_left _ hp
    · exact List.mem_append_right _ (List.mem_map.mpr ⟨c, List.mem_of_getElem? hc, rfl⟩)
  | beg r d i j =>
    obtain ⟨⟨ru, er, hd⟩, hij, hj⟩ := h
    have h1 := h6 ru (List.mem_of_getElem? er)
    have hr := (List.getElem?_eq_some_iff.mp er).1
    exact List.mem_flatMap.mpr ⟨i, List.mem_range.mpr (by omega), List.mem_flatMap.mpr ⟨j, List.mem_range.mpr (by omega), List.mem_append_right _ (List.mem_flatMap.mpr ⟨r, List.mem_range.mpr hr, List.mem_map.mpr ⟨d, List.mem_range.mpr (by omega), rfl⟩⟩)⟩⟩
theorem flat_len {α β : Type} {f : α → List β} {n : Nat} : ∀ {l : List α}, (∀ x ∈ l, (f x).length ≤ n) → (l.flatMap f).length ≤ l.length * n
  | [], _ => by simp
  | x :: l, h => by
    have ih := flat_len (f := f) (n := n) (l := l) fun y hy => h y (List.mem_cons_of_mem _ hy)
    have h1 := h x List.mem_cons_self
    rw [List.flatMap_cons, List.length_append, List.length_cons, Nat.succ_mul]
    omega
theorem allN_len {g : Gram} {cs : List Nat} (hg : g.length ≤ 60) (hc : cs.length ≤ 60) : (allN g cs).length ≤ 2100000 := by
  unfold allN
  have h1 : ∀ i j : Nat, ((g.map (·.1) ++ cs.map sgnP).map (fun p => Nd.part p i j) ++ (List.range g.length).flatMap fun r => (List.range 7).map fun d => Nd.beg r d i j).length ≤ 540 := fun i j => by
    rw [List.length_append, List.length_map, List.length_append, List.length_map, List.length_map]
    have := flat_len (f := fun r => (List.range 7).map fun d => Nd.beg r d i j) (n := 7) (l := List.range g.length) (fun x _ => by rw [List.length_map, List.length_range]; exact Nat.le_refl _)
    rw [List.length_range] at this
    omega
  have h2 : ∀ i : Nat, ((List.range (cs.length + 1)).flatMap fun j => (g.map (·.1) ++ cs.map sgnP).map (fun p => Nd.part p i j) ++ (List.range g.length).flatMap fun r => (List.range 7).map fun d => Nd.beg r d i j).length ≤ 32940 := fun i => by
    have := flat_len (n := 540) (l := List.range (cs.length + 1)) (fun j _ => h1 i j)
    rw [List.length_range] at this
    omega
  have := flat_len (n := 32940) (l := List.range (cs.length + 1)) (fun i _ => h2 i)
  rw [List.length_range] at this
  omega

def Why (g : Gram) (cs : List Nat) (hs : Hs) : Nd → Nat → Prop
  | .part p i j, v => (v = 0 ∧ ∃ c, cs[i]? = some c ∧ p = sgnP c ∧ j = i + 1) ∨ ∃ r ru m, g[r]? = some ru ∧ ru.1 = p ∧ lookN hs (.beg r ru.2.1.length i j) = some m ∧ v = m + 1
  | .beg r d i j, v => (d = 0 ∧ i = j ∧ v = 0) ∨ ∃ d' k p a b, d = d' + 1 ∧ partAt g r d' = some p ∧ lookN hs (.beg r d' i k) = some a ∧ lookN hs (.part p k j) = some b ∧ v = max a b
theorem Why.mono {g : Gram} {cs : List Nat} {hs hs' : Hs} (hm : ∀ x m, lookN hs x = some m → lookN hs' x = some m) {x : Nd} {v : Nat} (h : Why g cs hs x v) : Why g cs hs' x v := by
  cases x with
  | part p i j =>
    rcases h with h | ⟨r, ru, m, e1, e2, e3, e4⟩
    · exact .inl h
    · exact .inr ⟨r, ru, m, e1, e2, hm _ _ e3, e4⟩
  | beg r d i j =>
    rcases h with h | ⟨d', k, p, a, b, e1, e2, e3, e4, e5⟩
    · exact .inl h
    · exact .inr ⟨d', k, p, a, b, e1, e2, hm _ _ e3, hm _ _ e4, e5⟩

structure Cl (g : Gram) (hs : Hs) (M : Nd → Prop) : Prop where
  join : ∀ r d i k p j a b, M (.beg r d i k) → M (.part p k j) → partAt g r d = some p → lookN hs (.beg r d i k) = some a → lookN hs (.part p k j) = some b → ∃ v, lookN hs (.beg r (d + 1) i j) = some v ∧ v ≤ max a b
  up : ∀ r ru i j a, g[r]? = some ru → M (.beg r ru.2.1.length i j) → lookN hs (.beg r ru.2.1.length i j) = some a → ∃ v, lookN hs (.part ru.1 i j) = some v ∧ v ≤ a + 1

structure GrM (g : Gram) (cs : List Nat) (hs : Hs) (met fresh higher : List Nd) (h : Nat) : Prop where
  nd : (hs.map (·.1)).Nodup
  pm : (hs.map (·.1)).Perm (met ++ (fresh ++ higher))
  vm : ∀ x ∈ met, ∃ v, lookN hs x = some v ∧ v ≤ h
  vf : ∀ x ∈ fresh, lookN hs x = some h
  vh : ∀ x ∈ higher, lookN hs x = some (h + 1) ∧ ∃ p i j, x = .part p i j
  leg : ∀ x v, lookN hs x = some v → Leg g cs x
  why : ∀ x v, lookN hs x = some v → Why g cs hs x v
theorem look_old {hs : Hs} {y : Nd} {n : Nat} (h : lookN hs y = none) : ∀ x m, lookN hs x = some m → lookN (hs ++ [(y, n)]) x = some m := fun x m e => by
  rw [look_snoc _ _ _ _ h, if_neg (fun z => by rw [z, h] at e; cases e)]
  exact e
theorem Cl.snoc {g : Gram} {hs : Hs} {M : Nd → Prop} {y : Nd} {n : Nat} (c : Cl g hs M) (h : lookN hs y = none) (hM : ∀ x, M x → ∃ v, lookN hs x = some v) : Cl g (hs ++ [(y, n)]) M := by
  have old := look_old (n := n) h
  have back : ∀ x a, M x → lookN (hs ++ [(y, n)]) x = some a → lookN hs x = some a := fun x a hx e => by
    obtain ⟨v, hv⟩ := hM x hx
    have := old _ _ hv
    rw [e] at this
    cases this
    exact hv
  refine ⟨fun r d i k p j a b m1 m2 hp e1 e2 => ?_, fun r ru i j a er m1 e1 => ?_⟩
  · obtain ⟨v, hv, hle⟩ := c.join r d i k p j a b m1 m2 hp (back _ _ m1 e1) (back _ _ m2 e2)
    exact ⟨v, old _ _ hv, hle⟩
  · obtain ⟨v, hv, hle⟩ := c.up r ru i j a er m1 (back _ _ m1 e1)
    exact ⟨v, old _ _ hv, hle⟩
theorem mem_look {g : Gram} {cs : List Nat} {hs : Hs} {met fresh higher : List Nd} {h : Nat} (m : GrM g cs hs met fresh higher h) {x : Nd} {v : Nat} (e : lookN hs x = some v) : x ∈ met ∨ x ∈ fresh ∨ x ∈ higher := by
  have := m.pm.mem_iff.mp (look_memN e)
  rw [List.mem_append, List.mem_append] at this
  exact this
theorem GrM.stand {g : Gram} {cs : List Nat} {hs : Hs} {met fresh higher : List Nd} {h : Nat} (m : GrM g cs hs met fresh higher h) {y : Nd} (hy : lookN hs y = none) (hl : Leg g cs y) (hw : Why g cs hs y h) : GrM g cs (hs ++ [(y, h)]) met (fresh ++ [y]) higher h := by
  have old := look_old (n := h) hy
  have ny : y ∉ hs.map (·.1) := fun z => by obtain ⟨v, hv⟩ := look_isN z; rw [hy] at hv; cases hv
  refine ⟨?_, ?_, fun x hx => ?_, fun x hx => ?_, fun x hx => ?_, fun x v e => ?_, fun x v e => ?_⟩
  · rw [List.map_append, List.nodup_append]
    refine ⟨m.nd, by simp, fun a ha b hb e => ?_⟩
    cases List.mem_singleton.mp hb
    subst e
    exact ny ha
  · rw [List.map_append]
    refine (m.pm.append_right _).trans ?_
    show (met ++ (fresh ++ higher) ++ [y]).Perm (met ++ (fresh ++ [y] ++ higher))
    rw [List.append_assoc, List.append_assoc, List.append_assoc]
    exact (List.perm_append_comm.append_left fresh).append_left met
  · obtain ⟨v, hv, hle⟩ := m.vm x hx
    exact ⟨v, old _ _ hv, hle⟩
  · rcases List.mem_append.mp hx with hx | hx
    · exact old _ _ (m.vf x hx)
    · cases List.mem_singleton.mp hx
      rw [look_snoc _ _ _ _ hy, if_pos rfl]
  · obtain ⟨h1, h2⟩ := m.vh x hx
    exact ⟨old _ _ h1, h2⟩
  · rw [look_snoc _ _ _ _ hy] at e
    split at e
    · rename_i z
      rw [z]
      exact hl
    · exact m.leg x v e
  · rw [look_snoc _ _ _ _ hy] at e
    split at e
    · rename_i z
      cases e
      rw [z]
      exact hw.mono old
    · exact (m.why x v e).mono old
theorem GrM.standUp {g : Gram} {cs : List Nat} {hs : Hs} {met fresh higher : List Nd} {h : Nat} (m : GrM g cs hs met fresh higher h) {p : Str} {i j : Nat} (hy : lookN hs (.part p i j) = none) (hl : Leg g cs (.part p i j)) (hw : Why g cs hs (.part p i j) (h + 1)) : GrM g cs (hs ++ [(.part p i j, h + 1)]) met fresh (higher ++ [.part p i j]) h := by
  have old := look_old (n := h + 1) hy
  have ny : Nd.part p i j ∉ hs.map (·.1) := fun z => by obtain ⟨v, hv⟩ := look_isN z; rw [hy] at hv; cases hv
  refine ⟨?_, ?_, fun x hx => ?_, fun x hx => old _ _ (m.vf x hx), fun x hx => ?_, fun x v e => ?_, fun x v e => ?_⟩
  · rw [List.map_append, List.nodup_append]
    refine ⟨m.nd, by simp, fun a ha b hb e => ?_⟩
    cases List.mem_singleton.mp hb
    subst e
    exact ny ha
  · rw [List.map_append]
    refine (m.pm.append_right _).trans ?_
    show (met ++ (fresh ++ higher) ++ [Nd.part p i j]).Perm (met ++ (fresh ++ (higher ++ [Nd.part p i j])))
    rw [List.append_assoc, List.append_assoc]
  · obtain ⟨v, hv, hle⟩ := m.vm x hx
    exact ⟨v, old _ _ hv, hle⟩
  · rcases List.mem_append.mp hx with hx | hx
    · obtain ⟨h1, h2⟩ := m.vh x hx
      exact ⟨old _ _ h1, h2⟩
    · cases List.mem_singleton.mp hx
      exact ⟨by rw [look_snoc _ _ _ _ hy, if_pos rfl], _, _, _, rfl⟩
  · rw [look_snoc _ _ _ _ hy] at e
    split at e
    · rename_i z
      rw [z]
      exact hl
    · exact m.leg x v e
  · rw [look_snoc _ _ _ _ hy] at e
    split at e
    · rename_i z
      cases e
      rw [z]
      exact hw.mono old
    · exact (m.why x v e).mono old

theorem GrM.pop {g : Gram} {cs : List Nat} {hs : Hs} {met fresh higher : List Nd} {h : Nat} {x : Nd} (m : GrM g cs hs met (fresh ++ [x]) higher h) : GrM g cs hs (met ++ [x]) fresh higher h := by
  refine ⟨m.nd, m.pm.trans ?_, fun y hy => ?_, fun y hy => m.vf y (List.mem_append_left _ hy), m.vh, m.leg, m.why⟩
  · rw [List.append_assoc, List.append_assoc]
    refine List.Perm.append_left met ?_
    rw [← List.append_assoc]
    exact (List.perm_append_comm (l₁ := fresh) (l₂ := [x])).append_right higher |>.trans (by rw [List.append_assoc])
  · rcases List.mem_append.mp hy with hy | hy
    · exact m.vm y hy
    · cases List.mem_singleton.mp hy
      exact ⟨h, m.vf x (List.mem_append_right _ (List.mem_singleton.mpr rfl)), Nat.le_refl _⟩

theorem GrM.next {g : Gram} {cs : List Nat} {hs : Hs} {met higher : List Nd} {h : Nat} (m : GrM g cs hs met [] higher h) : GrM g cs hs met higher [] (h + 1) := by
  refine ⟨m.nd, ?_, fun x hx => ?_, fun x hx => (m.vh x hx).1, fun x hx => ?_, m.leg, m.why⟩
  · have := m.pm
    rw [List.nil_append] at this
    rw [List.append_nil]
    exact this
  · obtain ⟨v, h1, h2⟩ := m.vm x hx
    exact ⟨v, h1, by omega⟩
  · cases hx
theorem GrM.len {g : Gram} {cs : List Nat} {hs : Hs} {met fresh higher : List Nd} {h : Nat} (m : GrM g cs hs met fresh higher h) (hg : okGram g = true) (hc : cs.length ≤ 60) : hs.length ≤ 2100000 ∧ met.length + fresh.length + higher.length = hs.length := by
  have h1 : ∀ x ∈ hs.map (·.1), x ∈ allN g cs := fun x hx => by
    obtain ⟨v, hv⟩ := look_isN hx
    exact leg_all (fun ru hr => by
      obtain ⟨k, hk⟩ := List.mem_iff_getElem?.mp hr
      exact (rule_parts (rule_okB hg hk)).1) (m.leg x v hv)
  have h2 := nodup_lenD m.nd h1
  have h3 := allN_len (gram_60 hg) hc
  rw [List.length_map] at h2
  have h4 := m.pm.length_eq
  rw [List.length_map, List.length_append, List.length_append] at h4
  exact ⟨by omega, by omega⟩

theorem GrM.begLe {g : Gram} {cs : List Nat} {hs : Hs} {met fresh higher : List Nd} {h : Nat} (m : GrM g cs hs met fresh higher h) {r d i j v : Nat} (e : lookN hs (.beg r d i j) = some v) : v ≤ h := by
  rcases mem_look m e with hx | hx | hx
  · obtain ⟨v', e', hle⟩ := m.vm _ hx
    rw [e] at e'
    cases e'
    exact hle
  · have := m.vf _ hx
    rw [e] at this
    cases this
    exact Nat.le_refl _
  · obtain ⟨_, p, i, j, z⟩ := m.vh _ hx
    cases z
theorem GrM.anyLe {g : Gram} {cs : List Nat} {hs : Hs} {met fresh higher : List Nd} {h : Nat} (m : GrM g cs hs met fresh higher h) {x : Nd} {v : Nat} (e : lookN hs x = some v) : v ≤ h + 1 := by
  rcases mem_look m e with hx | hx | hx
  · obtain ⟨v', e', hle⟩ := m.vm _ hx
    rw [e] at e'
    cases e'
    omega
  · have := m.vf _ hx
    rw [e] at this
    cases this
    omega
  · have := (m.vh _ hx).1
    rw [e] at this
    cases this
    exact Nat.le_refl _
end FR


set_option linter.all false
set_option maxRecDepth 100000
set_option maxHeartbeats 4000000
namespace FR
open PySem L2
inductive Tag where
  | fr | hi | bg (p : Str) (k : Nat) | en (p : Str) (k : Nat)
def fldG (l a1 : Addr) (h : Nat) (a2 a3 a4 a5 : Addr) : List (Str × V) := [("rules", .ref l), ("heights", .ref a1), ("height", nV h), ("fresh", .ref a2), ("higher", .ref a3), ("begun", .ref a4), ("ends", .ref a5)]
def NdsAt (H : Hp) (ts : List Addr) (ns : List Nd) : Prop := ts.length = ns.length ∧ ∀ (i : Nat) (t : Addr) (x : Nd), ts[i]? = some t → ns[i]? = some x → H t = some (.tup ((keyN x).map kV))
def Tri (H : Hp) (ts : List Addr) (l : List (Nat × Nat × Nat)) : Prop := ts.length = l.length ∧ ∀ (i : Nat) (t : Addr) (q : Nat × Nat × Nat), ts[i]? = some t → l[i]? = some q → H t = some (.tup [nV q.1, nV q.2.1, nV q.2.2])
def kPK (p : Str) (k : Nat) : List Key := [.inr p, .inl (k : Int)]
theorem kPK_inj {p p' : Str} {k k' : Nat} (h : kPK p k = kPK p' k') : p = p' ∧ k = k' := by
  simp only [kPK, List.cons.injEq, Sum.inr.injEq, Sum.inl.injEq, Int.ofNat_inj, and_true] at h
  exact h
theorem NdsAt.keep {H H' : Hp} {ts : List Addr} {ns : List Nd} (h : NdsAt H ts ns) (k : ∀ t ys, H t = some (.tup ys) → H' t = some (.tup ys)) : NdsAt H' ts ns := ⟨h.1, fun i t x e1 e2 => k _ _ (h.2 i t x e1 e2)⟩
theorem Tri.keep {H H' : Hp} {ts : List Addr} {l : List (Nat × Nat × Nat)} (h : Tri H ts l) (k : ∀ t ys, H t = some (.tup ys) → H' t = some (.tup ys)) : Tri H' ts l := ⟨h.1, fun i t x e1 e2 => k _ _ (h.2 i t x e1 e2)⟩
theorem NdsAt.snoc {H : Hp} {ts : List Addr} {ns : List Nd} (h : NdsAt H ts ns) {t : Addr} {x : Nd} (ht : H t = some (.tup ((keyN x).map kV))) : NdsAt H (ts ++ [t]) (ns ++ [x]) := by
  refine ⟨by rw [List.length_append, List.length_append, h.1]; rfl, fun i t' x' e1 e2 => ?_⟩
  by_cases hi : i < ts.length
  · rw [List.getElem?_append_left hi] at e1
    rw [List.getElem?_append_left (by rw [← h.1]; exact hi)] at e2
    exact h.2 i t' x' e1 e2
  · rw [List.getElem?_append_right (by omega)] at e1
    rw [List.getElem?_append_right (by rw [← h.1]; omega), ← h.1] at e2
    have hz : i - ts.length = 0 := by
      cases hh : i - ts.length with
      | zero => rfl
      | succ j => rw [hh] at e1; simp at e1
    rw [hz] at e1 e2
    cases e1
    cases e2
    exact ht
theorem Tri.snoc {H : Hp} {ts : List Addr} {ns : List (Nat × Nat × Nat)} (h : Tri H ts ns) {t : Addr} {x : Nat × Nat × Nat} (ht : H t = some (.tup [nV x.1, nV x.2.1, nV x.2.2])) : Tri H (ts ++ [t]) (ns ++ [x]) := by
  refine ⟨by rw [List.length_append, List.length_append, h.1]; rfl, fun i t' x' e1 e2 => ?_⟩
  by_cases hi : i < ts.length
  · rw [List.getElem?_append_left hi] at e1
    rw [List.getElem?_append_left (by rw [← h.1]; exact hi)] at e2
    exact h.2 i t' x' e1 e2
  · rw [List.getElem?_append_right (by omega)] at e1
    rw [List.getElem?_append_right (by rw [← h.1]; omega), ← h.1] at e2
    have hz : i - ts.length = 0 := by
      cases hh : i - ts.length with
      | zero => rfl
      | succ j => rw [hh] at e1; simp at e1
    rw [hz] at e1 e2
    cases e1
    cases e2
    exact ht
theorem NdsAt.pop {H : Hp} {ts : List Addr} {t : Addr} {ns : List Nd} {x : Nd} (h : NdsAt H (ts ++ [t]) (ns ++ [x])) : NdsAt H ts ns ∧ H t = some (.tup ((keyN x).map kV)) := by
  have hl : ts.length = ns.length := by
    have := h.1
    rw [List.length_append, List.length_append] at this
    simpa using this
  refine ⟨⟨hl, fun i t' x' e1 e2 => h.2 i t' x' (by rw [List.getElem?_append_left (List.getElem?_eq_some_iff.mp e1).1]; exact e1) (by rw [List.getElem?_append_left (List.getElem?_eq_some_iff.mp e2).1]; exact e2)⟩, ?_⟩
  exact h.2 ts.length t x (by rw [List.getElem?_append_right (Nat.le_refl _), Nat.sub_self]; rfl) (by rw [List.getElem?_append_right (by rw [hl]; exact Nat.le_refl _), hl, Nat.sub_self]; rfl)
abbrev BgT := Str → Nat → List (Nat × Nat × Nat)
abbrev EnT := Str → Nat → List Nat

def BgAt (H : Hp) (own : Addr → Option Tag) (kvs : List (List Key × V)) (B : BgT) : Prop := ∀ p k, (valV kvs (kPK p k) = none ∧ B p k = []) ∨ ∃ a ts, valV kvs (kPK p k) = some (.ref a) ∧ own a = some (.bg p k) ∧ H a = some (.lst (ts.map V.ref)) ∧ Tri H ts (B p k)
def EnAt (H : Hp) (own : Addr → Option Tag) (kvs : List (List Key × V)) (E : EnT) : Prop := ∀ p k, (valV kvs (kPK p k) = none ∧ E p k = []) ∨ ∃ a, valV kvs (kPK p k) = some (.ref a) ∧ own a = some (.en p k) ∧ H a = some (.lst ((E p k).map nV))
structure GSt (C : Addr) (H0 H : Hp) (x l a1 a2 a3 a4 a5 : Addr) (own : Addr → Option Tag) (hs : Hs) (fresh higher : List Nd) (h : Nat) (B : BgT) (E : EnT) (N : Nat) : Prop where
  sm : Same H0 H
  x_ : ∃ dx, H x = some (.ins C dx (fldG l a1 h a2 a3 a4 a5))
  h1 : H a1 = some (.dT (hsD hs))
  h2 : ∃ ts, H a2 = some (.lst (ts.map V.ref)) ∧ NdsAt H ts fresh
  h3 : ∃ ts, H a3 = some (.lst (ts.map V.ref)) ∧ NdsAt H ts higher
  h4 : ∃ kvs, H a4 = some (.dT kvs) ∧ kvs.length ≤ N ∧ BgAt H own kvs B
  h5 : ∃ kvs, H a5 = some (.dT kvs) ∧ kvs.length ≤ N ∧ EnAt H own kvs E
  hb : ∀ p k, (B p k).length ≤ N ∧ (E p k).length ≤ N
  o2 : own a2 = some .fr
  o3 : own a3 = some .hi
  on : ∀ a t, own a = some t → H0 a = none ∧ ∃ xs, H a = some (.lst xs)
  nx : H0 x = none
  n1 : H0 a1 = none
  n4 : H0 a4 = none
  n5 : H0 a5 = none
  d14 : a1 ≠ a4
  d15 : a1 ≠ a5
  d45 : a4 ≠ a5
  pl : ∀ b o, H b = some o → b = a1 ∨ b = a4 ∨ b = a5 ∨ plainH o = true
theorem upd_pl {H : Hp} {c : Addr} {o : HO} (h : plainH o = true) : ∀ b u, upd H c o b = some u → H b = some u ∨ plainH u = true := fun b u e => by
  by_cases hb : b = c
  · subst hb
    rw [upd_same] at e
    cases e
    exact .inr h
  · rw [upd_ne hb] at e
    exact .inl e
section
variable {C : Addr} {H0 H H' : Hp} {x l a1 a2 a3 a4 a5 : Addr} {own : Addr → Option Tag} {hs : Hs} {fresh higher : List Nd} {h : Nat} {B : BgT} {E : EnT} {N : Nat}
theorem BgAt.keep {kvs : List (List Key × V)} (b : BgAt H own kvs B) (kl : ∀ a p k ys, own a = some (.bg p k) → H a = some (.lst ys) → H' a = some (.lst ys)) (kt : ∀ t ys, H t = some (.tup ys) → H' t = some (.tup ys)) : BgAt H' own kvs B := fun p k => by
  rcases b p k with z | ⟨a, ts, e1, e2, e3, e4⟩
  · exact .inl z
  · exact .inr ⟨a, ts, e1, e2, kl _ _ _ _ e2 e3, e4.keep kt⟩
theorem EnAt.keep {kvs : List (List Key × V)} (b : EnAt H own kvs E) (kl : ∀ a p k ys, own a = some (.en p k) → H a = some (.lst ys) → H' a = some (.lst ys)) : EnAt H' own kvs E := fun p k => by
  rcases b p k with z | ⟨a, e1, e2, e3⟩
  · exact .inl z
  · exact .inr ⟨a, e1, e2, kl _ _ _ _ e2 e3⟩
theorem GSt.same (g : GSt C H0 H x l a1 a2 a3 a4 a5 own hs fresh higher h B E N) (s : Same H H') (hp : ∀ b u, H' b = some u → H b = some u ∨ plainH u = true) : GSt C H0 H' x l a1 a2 a3 a4 a5 own hs fresh higher h B E N := by
  obtain ⟨dx, hx⟩ := g.x_
  obtain ⟨t2, e2, n2⟩ := g.h2
  obtain ⟨t3, e3, n3⟩ := g.h3
  obtain ⟨k4, e4, l4, b4⟩ := g.h4
  obtain ⟨k5, e5, l5, b5⟩ := g.h5
  exact ⟨g.sm.trans s, ⟨dx, s _ _ hx⟩, s _ _ g.h1, ⟨t2, s _ _ e2, n2.keep fun _ _ => s _ _⟩, ⟨t3, s _ _ e3, n3.keep fun _ _ => s _ _⟩, ⟨k4, s _ _ e4, l4, b4.keep (fun _ _ _ _ _ => s _ _) fun _ _ => s _ _⟩, ⟨k5, s _ _ e5, l5, b5.keep fun _ _ _ _ _ => s _ _⟩, g.hb, g.o2, g.o3, fun a t e => let ⟨z1, xs, z2⟩ := g.on a t e; ⟨z1, xs, s _ _ z2⟩, g.nx, g.n1, g.n4, g.n5, g.d14, g.d15, g.d45, fun b o e => (hp b o e).elim (g.pl b o) fun z => .inr (.inr (.inr z))⟩

theorem GSt.set1 (g : GSt C H0 H x l a1 a2 a3 a4 a5 own hs fresh higher h B E N) (hs' : Hs) : GSt C H0 (upd H a1 (.dT (hsD hs'))) x l a1 a2 a3 a4 a5 own hs' fresh higher h B E N := by
  obtain ⟨dx, hx⟩ := g.x_
  obtain ⟨t2, e2, n2⟩ := g.h2
  obtain ⟨t3, e3, n3⟩ := g.h3
  obtain ⟨k4, e4, l4, b4⟩ := g.h4
  obtain ⟨k5, e5, l5, b5⟩ := g.h5
  have kt : ∀ t ys, H t = some (.tup ys) → upd H a1 (.dT (hsD hs')) t = some (.tup ys) := fun t ys e => by rw [upd_ne (ne_of e g.h1 (fun z => nomatch z))]; exact e
  have kl : ∀ t ys, H t = some (.lst ys) → upd H a1 (.dT (hsD hs')) t = some (.lst ys) := fun t ys e => by rw [upd_ne (ne_of e g.h1 (fun z => nomatch z))]; exact e
  exact ⟨g.sm.put g.n1, ⟨dx, by rw [upd_ne (ne_of hx g.h1 (fun z => nomatch z))]; exact hx⟩, upd_same, ⟨t2, kl _ _ e2, n2.keep kt⟩, ⟨t3, kl _ _ e3, n3.keep kt⟩, ⟨k4, by rw [upd_ne g.d14.symm]; exact e4, l4, b4.keep (fun _ _ _ _ _ => kl _ _) kt⟩, ⟨k5, by rw [upd_ne g.d15.symm]; exact e5, l5, b5.keep fun _ _ _ _ _ => kl _ _⟩, g.hb, g.o2, g.o3, fun a t e => let ⟨z1, xs, z2⟩ := g.on a t e; ⟨z1, xs, kl _ _ z2⟩, g.nx, g.n1, g.n4, g.n5, g.d14, g.d15, g.d45, fun b o e => (by by_cases hb : b = a1; exact .inl hb; rw [upd_ne hb] at e; exact g.pl b o e)⟩

theorem GSt.set2 (g : GSt C H0 H x l a1 a2 a3 a4 a5 own hs fresh higher h B E N) {ts : List Addr} {fr : List Nd} (hn : NdsAt H ts fr) : GSt C H0 (upd H a2 (.lst (ts.map V.ref))) x l a1 a2 a3 a4 a5 own hs fr higher h B E N := by
  obtain ⟨dx, hx⟩ := g.x_
  obtain ⟨t2, e2, n2⟩ := g.h2
  obtain ⟨t3, e3, n3⟩ := g.h3
  obtain ⟨k4, e4, l4, b4⟩ := g.h4
  obtain ⟨k5, e5, l5, b5⟩ := g.h5
  have kt : ∀ t ys, H t = some (.tup ys) → upd H a2 (.lst (ts.map V.ref)) t = some (.tup ys) := fun t ys e => by rw [upd_ne (ne_of e e2 (fun z => nomatch z))]; exact e
  have kd : ∀ t ys, H t = some (.dT ys) → upd H a2 (.lst (ts.map V.ref)) t = some (.dT ys) := fun t ys e => by rw [upd_ne (ne_of e e2 (fun z => nomatch z))]; exact e
  have ko : ∀ a t ys, own a = some t → t ≠ .fr → H a = some (.lst ys) → upd H a2 (.lst (ts.map V.ref)) a = some (.lst ys) := fun a t ys e1 e2 e3 => by rw [upd_ne (fun z => by rw [z, g.o2] at e1; cases e1; exact e2 rfl)]; exact e3
  refine ⟨g.sm.put (g.on _ _ g.o2).1, ⟨dx, by rw [upd_ne (ne_of hx e2 (fun z => nomatch z))]; exact hx⟩, kd _ _ g.h1, ⟨ts, upd_same, hn.keep kt⟩, ⟨t3, ko _ _ _ g.o3 (fun z => nomatch z) e3, n3.keep kt⟩, ⟨k4, kd _ _ e4, l4, b4.keep (fun _ _ _ _ z => ko _ _ _ z (fun z => nomatch z)) kt⟩, ⟨k5, kd _ _ e5, l5, b5.keep fun _ _ _ _ z => ko _ _ _ z (fun z => nomatch z)⟩, g.hb, g.o2, g.o3, fun a t e => ?_, g.nx, g.n1, g.n4, g.n5, g.d14, g.d15, g.d45, fun b o e => (upd_pl rfl b o e).elim (g.pl b o) fun z => .inr (.inr (.inr z))⟩
  obtain ⟨z1, xs, z2⟩ := g.on a t e
  by_cases ha : a = a2
  · subst ha
    exact ⟨z1, _, upd_same⟩
  · exact ⟨z1, xs, by rw [upd_ne ha]; exact z2⟩
theorem GSt.set3 (g : GSt C H0 H x l a1 a2 a3 a4 a5 own hs fresh higher h B E N) {ts : List Addr} {fr : List Nd} (hn : NdsAt H ts fr) : GSt C H0 (upd H a3 (.lst (ts.map V.ref))) x l a1 a2 a3 a4 a5 own hs fresh fr h B E N := by
  obtain ⟨dx, hx⟩ := g.x_
  obtain ⟨t2, e2, n2⟩ := g.h2
  obtain ⟨t3, e3, n3⟩ := g.h3
  obtain ⟨k4, e4, l4, b4⟩ := g.h4
  obtain ⟨k5, e5, l5, b5⟩ := g.h5
  have kt : ∀ t ys, H t = some (.tup ys) → upd H a3 (.lst (ts.map V.ref)) t = some (.tup ys) := fun t ys e => by rw [upd_ne (ne_of e e3 (fun z => nomatch z))]; exact e
  have kd : ∀ t ys, H t = some (.dT ys) → upd H a3 (.lst (ts.map V.ref)) t = some (.dT ys) := fun t ys e => by rw [upd_ne (ne_of e e3 (fun z => nomatch z))]; exact e
  have ko : ∀ a t ys, own a = some t → t ≠ .hi → H a = some (.lst ys) → upd H a3 (.lst (ts.map V.ref)) a = some (.lst ys) := fun a t ys e1 e2 e3 => by rw [upd_ne (fun z => by rw [z, g.o3] at e1; cases e1; exact e2 rfl)]; exact e3
  refine ⟨g.sm.put (g.on _ _ g.o3).1, ⟨dx, by rw [upd_ne (ne_of hx e3 (fun z => nomatch z))]; exact hx⟩, kd _ _ g.h1, ⟨t2, ko _ _ _ g.o2 (fun z => nomatch z) e2, n2.keep kt⟩, ⟨ts, upd_same, hn.keep kt⟩, ⟨k4, kd _ _ e4, l4, b4.keep (fun _ _ _ _ z => ko _ _ _ z (fun z => nomatch z)) kt⟩, ⟨k5, kd _ _ e5, l5, b5.keep fun _ _ _ _ z => ko _ _ _ z (fun z => nomatch z)⟩, g.hb, g.o2, g.o3, fun a t e => ?_, g.nx, g.n1, g.n4, g.n5, g.d14, g.d15, g.d45, fun b o e => (upd_pl rfl b o e).elim (g.pl b o) fun z => .inr (.inr (.inr z))⟩
  obtain ⟨z1, xs, z2⟩ := g.on a t e
  by_cases ha : a = a3
  · subst ha
    exact ⟨z1, _, upd_same⟩
  · exact ⟨z1, xs, by rw [upd_ne ha]; exact z2⟩
end

def addB (B : BgT) (p : Str) (k : Nat) (q : Nat × Nat × Nat) : BgT := fun p' k' => if p' = p ∧ k' = k then B p' k' ++ [q] else B p' k'
def addE (E : EnT) (p : Str) (k : Nat) (j : Nat) : EnT := fun p' k' => if p' = p ∧ k' = k then E p' k' ++ [j] else E p' k'

def Stays (a1 a2 : Addr) (H H' : Hp) : Prop := ∀ b o, b ≠ a1 → b ≠ a2 → H b = some o → H' b = some o
def spGInit (C : Addr) : Sp := fun vs H Q _ => ∃ (H0 : Hp) (x l dx : Addr), vs = [.ref x, .ref l] ∧ H x = some (.ins C dx []) ∧ H0 x = none ∧ Same H0 H ∧ Plain H ∧
  ∀ a1 a2 a3 a4 a5 own H', GSt C H0 H' x l a1 a2 a3 a4 a5 own [] [] [] 0 (fun _ _ => []) (fun _ _ => []) 0 → Q .non H'
def spStand (C : Addr) : Sp := fun vs H Q _ => ∃ (H0 : Hp) (x l a1 a2 a3 a4 a5 t : Addr) (own : Addr → Option Tag) (hs : Hs) (fresh higher : List Nd) (h : Nat) (B : BgT) (E : EnT) (N : Nat) (y : Nd), vs = [.ref x, .ref t] ∧ GSt C H0 H x l a1 a2 a3 a4 a5 own hs fresh higher h B E N ∧
  H t = some (.tup ((keyN y).map kV)) ∧ lookN hs y = none ∧ hs.length ≤ 3000000 ∧ fresh.length ≤ 3000000 ∧ ∀ H', GSt C H0 H' x l a1 a2 a3 a4 a5 own (hs ++ [(y, h)]) (fresh ++ [y]) higher h B E N → Stays a1 a2 H H' → Q .non H'
def spStandUp (C : Addr) : Sp := fun vs H Q _ => ∃ (H0 : Hp) (x l a1 a2 a3 a4 a5 t : Addr) (own : Addr → Option Tag) (hs : Hs) (fresh higher : List Nd) (h : Nat) (B : BgT) (E : EnT) (N : Nat) (y : Nd), vs = [.ref x, .ref t] ∧ GSt C H0 H x l a1 a2 a3 a4 a5 own hs fresh higher h B E N ∧
  H t = some (.tup ((keyN y).map kV)) ∧ lookN hs y = none ∧ hs.length ≤ 3000000 ∧ higher.length ≤ 3000000 ∧ ∀ H', GSt C H0 H' x l a1 a2 a3 a4 a5 own (hs ++ [(y, h + 1)]) fresh (higher ++ [y]) h B E N → Stays a1 a3 H H' → Q .non H'
end FR


set_option linter.all false
set_option maxRecDepth 100000
set_option maxHeartbeats 4000000
namespace FR
open PySem L2
section
variable {C : Addr} {H0 H H' : Hp} {x l a1 a2 a3 a4 a5 : Addr} {own : Addr → Option Tag} {hs : Hs} {fresh higher : List Nd} {h : Nat} {B : BgT} {E : EnT} {N : Nat}
theorem GSt.fine (g : GSt C H0 H x l a1 a2 a3 a4 a5 own hs fresh higher h B E N) {a : Addr} (e : H a = none) : own a = none := by
  cases ho : own a with
  | none => rfl
  | some t =>
    obtain ⟨_, xs, z⟩ := g.on a t ho
    rw [e] at z
    cases z

theorem GSt.enSet (g : GSt C H0 H x l a1 a2 a3 a4 a5 own hs fresh higher h B E N) {p : Str} {k : Nat} {a : Addr} (ho : own a = some (.en p k)) {E' : EnT} (e1 : ∀ p' k', ¬ (p' = p ∧ k' = k) → E' p' k' = E p' k') {kvs : List (List Key × V)} (e5 : H a5 = some (.dT kvs)) (hv : valV kvs (kPK p k) = some (.ref a)) (hl : ∀ p' k', (E' p' k').length ≤ N) : GSt C H0 (upd H a (.lst ((E' p k).map nV))) x l a1 a2 a3 a4 a5 own hs fresh higher h B E' N := by
  obtain ⟨dx, hx⟩ := g.x_
  obtain ⟨t2, f2, n2⟩ := g.h2
  obtain ⟨t3, f3, n3⟩ := g.h3
  obtain ⟨k4, f4, l4, b4⟩ := g.h4
  obtain ⟨k5, f5, l5, b5⟩ := g.h5
  rw [e5] at f5
  cases f5
  obtain ⟨na, xs0, ha⟩ := g.on a _ ho
  have kt : ∀ t ys, H t = some (.tup ys) → upd H a (.lst ((E' p k).map nV)) t = some (.tup ys) := fun t ys e => by rw [upd_ne (ne_of e ha (fun z => nomatch z))]; exact e
  have kd : ∀ t ys, H t = some (.dT ys) → upd H a (.lst ((E' p k).map nV)) t = some (.dT ys) := fun t ys e => by rw [upd_ne (ne_of e ha (fun z => nomatch z))]; exact e
  have ko : ∀ c t ys, own c = some t → t ≠ .en p k → H c = some (.lst ys) → upd H a (.lst ((E' p k).map nV)) c = some (.lst ys) := fun c t ys q1 q2 q3 => by rw [upd_ne (fun z => by rw [z, ho] at q1; cases q1; exact q2 rfl)]; exact q3
  refine ⟨g.sm.put na, ⟨dx, by rw [upd_ne (ne_of hx ha (fun z => nomatch z))]; exact hx⟩, kd _ _ g.h1, ⟨t2, ko _ _ _ g.o2 (fun z => nomatch z) f2, n2.keep kt⟩, ⟨t3, ko _ _ _ g.o3 (fun z => nomatch z) f3, n3.keep kt⟩, ⟨k4, kd _ _ f4, l4, b4.keep (fun _ _ _ _ z => ko _ _ _ z (fun z => nomatch z)) kt⟩, ⟨kvs, kd _ _ e5, l5, fun p' k' => ?_⟩, fun p' k' => ⟨(g.hb p' k').1, hl p' k'⟩, g.o2, g.o3, fun c t e => ?_, g.nx, g.n1, g.n4, g.n5, g.d14, g.d15, g.d45, fun b o e => (upd_pl rfl b o e).elim (g.pl b o) fun z => .inr (.inr (.inr z))⟩
  · by_cases hpk : p' = p ∧ k' = k
    · obtain ⟨rfl, rfl⟩ := hpk
      exact .inr ⟨a, hv, ho, upd_same⟩
    · rw [e1 p' k' hpk]
      rcases b5 p' k' with z | ⟨c, z1, z2, z3⟩
      · exact .inl z
      · exact .inr ⟨c, z1, z2, ko _ _ _ z2 (fun z => hpk (by injection z with z4 z5; exact ⟨z4, z5⟩)) z3⟩
  · obtain ⟨z1, xs, z2⟩ := g.on c t e
    by_cases hc : c = a
    · subst hc
      exact ⟨z1, _, upd_same⟩
    · exact ⟨z1, xs, by rw [upd_ne hc]; exact z2⟩

theorem GSt.enNew (g : GSt C H0 H x l a1 a2 a3 a4 a5 own hs fresh higher h B E N) {p : Str} {k : Nat} {e : Addr} (he : H e = some (.lst [])) (h0 : H0 e = none) (ho : own e = none) {kvs : List (List Key × V)} (e5 : H a5 = some (.dT kvs)) (hv : valV kvs (kPK p k) = none) : GSt C H0 (upd H a5 (.dT (putK kvs (kPK p k) (.ref e)))) x l a1 a2 a3 a4 a5 (fun c => if c = e then some (.en p k) else own c) hs fresh higher h B E (N + 1) := by
  obtain ⟨dx, hx⟩ := g.x_
  obtain ⟨t2, f2, n2⟩ := g.h2
  obtain ⟨t3, f3, n3⟩ := g.h3
  obtain ⟨k4, f4, l4, b4⟩ := g.h4
  obtain ⟨k5, f5, l5, b5⟩ := g.h5
  rw [e5] at f5
  cases f5
  have kt : ∀ t ys, H t = some (.tup ys) → upd H a5 (.dT (putK kvs (kPK p k) (.ref e))) t = some (.tup ys) := fun t ys z => by rw [upd_ne (ne_of z e5 (fun z => nomatch z))]; exact z
  have kl : ∀ t ys, H t = some (.lst ys) → upd H a5 (.dT (putK kvs (kPK p k) (.ref e))) t = some (.lst ys) := fun t ys z => by rw [upd_ne (ne_of z e5 (fun z => nomatch z))]; exact z
  have no : ∀ c t, own c = some t → (if c = e then some (.en p k) else own c) = some t := fun c t z => by rw [if_neg (fun y => by rw [y, ho] at z; cases z)]; exact z
  refine ⟨g.sm.put g.n5, ⟨dx, by rw [upd_ne (ne_of hx e5 (fun z => nomatch z))]; exact hx⟩, by rw [upd_ne g.d15]; exact g.h1, ⟨t2, kl _ _ f2, n2.keep kt⟩, ⟨t3, kl _ _ f3, n3.keep kt⟩, ⟨k4, by rw [upd_ne g.d45]; exact f4, by omega, fun p' k' => ?_⟩, ⟨_, upd_same, by have := length_putK kvs (kPK p k) (.ref e); omega, fun p' k' => ?_⟩, fun p' k' => ⟨by have := (g.hb p' k').1; omega, by have := (g.hb p' k').2; omega⟩, no _ _ g.o2, no _ _ g.o3, fun c t z => ?_, g.nx, g.n1, g.n4, g.n5, g.d14, g.d15, g.d45, fun b o z => (by by_cases hb : b = a5; exact .inr (.inr (.inl hb)); rw [upd_ne hb] at z; exact g.pl b o z)⟩
  · rcases b4 p' k' with z | ⟨c, ts, z1, z2, z3, z4⟩
    · exact .inl z
    · exact .inr ⟨c, ts, z1, no _ _ z2, kl _ _ z3, z4.keep kt⟩
  · rw [valV_put]
    by_cases hpk : p' = p ∧ k' = k
    · obtain ⟨rfl, rfl⟩ := hpk
      rw [if_pos rfl]
      refine .inr ⟨e, rfl, if_pos rfl, ?_⟩
      rcases b5 p' k' with z | ⟨c, z1, z2, z3⟩
      · rw [z.2]
        exact kl _ _ he
      · rw [hv] at z1
        cases z1
    · rw [if_neg (fun z => hpk (kPK_inj z))]
      rcases b5 p' k' with z | ⟨c, z1, z2, z3⟩
      · exact .inl z
      · exact .inr ⟨c, z1, no _ _ z2, kl _ _ z3⟩
  · by_cases hc : c = e
    · subst hc
      exact ⟨h0, _, kl _ _ he⟩
    · rw [if_neg hc] at z
      obtain ⟨z1, xs, z2⟩ := g.on c t z
      exact ⟨z1, xs, kl _ _ z2⟩
theorem GSt.bgSet (g : GSt C H0 H x l a1 a2 a3 a4 a5 own hs fresh higher h B E N) {p : Str} {k : Nat} {a : Addr} (ho : own a = some (.bg p k)) {B' : BgT} (e1 : ∀ p' k', ¬ (p' = p ∧ k' = k) → B' p' k' = B p' k') {ts : List Addr} (htri : Tri H ts (B' p k)) {kvs : List (List Key × V)} (e4 : H a4 = some (.dT kvs)) (hv : valV kvs (kPK p k) = some (.ref a)) (hl : ∀ p' k', (B' p' k').length ≤ N) : GSt C H0 (upd H a (.lst (ts.map V.ref))) x l a1 a2 a3 a4 a5 own hs fresh higher h B' E N := by
  obtain ⟨dx, hx⟩ := g.x_
  obtain ⟨t2, f2, n2⟩ := g.h2
  obtain ⟨t3, f3, n3⟩ := g.h3
  obtain ⟨k4, f4, l4, b4⟩ := g.h4
  obtain ⟨k5, f5, l5, b5⟩ := g.h5
  rw [e4] at f4
  cases f4
  obtain ⟨na, xs0, ha⟩ := g.on a _ ho
  have kt : ∀ t ys, H t = some (.tup ys) → upd H a (.lst (ts.map V.ref)) t = some (.tup ys) := fun t ys e => by rw [upd_ne (ne_of e ha (fun z => nomatch z))]; exact e
  have kd : ∀ t ys, H t = some (.dT ys) → upd H a (.lst (ts.map V.ref)) t = some (.dT ys) := fun t ys e => by rw [upd_ne (ne_of e ha (fun z => nomatch z))]; exact e
  have ko : ∀ c t ys, own c = some t → t ≠ .bg p k → H c = some (.lst ys) → upd H a (.lst (ts.map V.ref)) c = some (.lst ys) := fun c t ys q1 q2 q3 => by rw [upd_ne (fun z => by rw [z, ho] at q1; cases q1; exact q2 rfl)]; exact q3
  refine ⟨g.sm.put na, ⟨dx, by rw [upd_ne (ne_of hx ha (fun z => nomatch z))]; exact hx⟩, kd _ _ g.h1, ⟨t2, ko _ _ _ g.o2 (fun z => nomatch z) f2, n2.keep kt⟩, ⟨t3, ko _ _ _ g.o3 (fun z => nomatch z) f3, n3.keep kt⟩, ⟨kvs, kd _ _ e4, l4, fun p' k' => ?_⟩, ⟨k5, kd _ _ f5, l5, b5.keep fun _ _ _ _ z => ko _ _ _ z (fun z => nomatch z)⟩, fun p' k' => ⟨hl p' k', (g.hb p' k').2⟩, g.o2, g.o3, fun c t e => ?_, g.nx, g.n1, g.n4, g.n5, g.d14, g.d15, g.d45, fun b o e => (upd_pl rfl b o e).elim (g.pl b o) fun z => .inr (.inr (.inr z))⟩
  · by_cases hpk : p' = p ∧ k' = k
    · obtain ⟨rfl, rfl⟩ := hpk
      exact .inr ⟨a, ts, hv, ho, upd_same, htri.keep kt⟩
    · rw [e1 p' k' hpk]
      rcases b4 p' k' with z | ⟨c, us, z1, z2, z3, z4⟩
      · exact .inl z
      · exact .inr ⟨c, us, z1, z2, ko _ _ _ z2 (fun z => hpk (by injection z with z5 z6; exact ⟨z5, z6⟩)) z3, z4.keep kt⟩
  · obtain ⟨z1, xs, z2⟩ := g.on c t e
    by_cases hc : c = a
    · subst hc
      exact ⟨z1, _, upd_same⟩
    · exact ⟨z1, xs, by rw [upd_ne hc]; exact z2⟩
theorem GSt.bgNew (g : GSt C H0 H x l a1 a2 a3 a4 a5 own hs fresh higher h B E N) {p : Str} {k : Nat} {e : Addr} (he : H e = some (.lst [])) (h0 : H0 e = none) (ho : own e = none) {kvs : List (List Key × V)} (e4 : H a4 = some (.dT kvs)) (hv : valV kvs (kPK p k) = none) : GSt C H0 (upd H a4 (.dT (putK kvs (kPK p k) (.ref e)))) x l a1 a2 a3 a4 a5 (fun c => if c = e then some (.bg p k) else own c) hs fresh higher h B E (N + 1) := by
  obtain ⟨dx, hx⟩ := g.x_
  obtain ⟨t2, f2, n2⟩ := g.h2
  obtain ⟨t3, f3, n3⟩ := g.h3
  obtain ⟨k4, f4, l4, b4⟩ := g.h4
  obtain ⟨k5, f5, l5, b5⟩ := g.h5
  rw [e4] at f4
  cases f4
  have kt : ∀ t ys, H t = some (.tup ys) → upd H a4 (.dT (putK kvs (kPK p k) (.ref e))) t = some (.tup ys) := fun t ys z => by rw [upd_ne (ne_of z e4 (fun z => nomatch z))]; exact z
  have kl : ∀ t ys, H t = some (.lst ys) → upd H a4 (.dT (putK kvs (kPK p k) (.ref e))) t = some (.lst ys) := fun t ys z => by rw [upd_ne (ne_of z e4 (fun z => nomatch z))]; exact z
  have no : ∀ c t, own c = some t → (if c = e then some (.bg p k) else own c) = some t := fun c t z => by rw [if_neg (fun y => by rw [y, ho] at z; cases z)]; exact z
  refine ⟨g.sm.put g.n4, ⟨dx, by rw [upd_ne (ne_of hx e4 (fun z => nomatch z))]; exact hx⟩, by rw [upd_ne g.d14]; exact g.h1, ⟨t2, kl _ _ f2, n2.keep kt⟩, ⟨t3, kl _ _ f3, n3.keep kt⟩, ⟨_, upd_same, by have := length_putK kvs (kPK p k) (.ref e); omega, fun p' k' => ?_⟩, ⟨k5, by rw [upd_ne g.d45.symm]; exact f5, by omega, fun p' k' => ?_⟩, fun p' k' => ⟨by have := (g.hb p' k').1; omega, by have := (g.hb p' k').2; omega⟩, no _ _ g.o2, no _ _ g.o3, fun c t z => ?_, g.nx, g.n1, g.n4, g.n5, g.d14, g.d15, g.d45, fun b o z => (by by_cases hb : b = a4; exact .inr (.inl hb); rw [upd_ne hb] at z; exact g.pl b o z)⟩
  · rw [valV_put]
    by_cases hpk : p' = p ∧ k' = k
    · obtain ⟨rfl, rfl⟩ := hpk
      rw [if_pos rfl]
      refine .inr ⟨e, [], rfl, if_pos rfl, kl _ _ he, ?_⟩
      rcases b4 p' k' with z | ⟨c, us, z1, z2, z3, z4⟩
      · rw [z.2]
        exact ⟨rfl, fun i t q e1 => nomatch e1⟩
      · rw [hv] at z1
        cases z1
    · rw [if_neg (fun z => hpk (kPK_inj z))]
      rcases b4 p' k' with z | ⟨c, us, z1, z2, z3, z4⟩
      · exact .inl z
      · exact .inr ⟨c, us, z1, no _ _ z2, kl _ _ z3, z4.keep kt⟩
  · rcases b5 p' k' with z | ⟨c, z1, z2, z3⟩
    · exact .inl z
    · exact .inr ⟨c, z1, no _ _ z2, kl _ _ z3⟩
  · by_cases hc : c = e
    · subst hc
      exact ⟨h0, _, kl _ _ he⟩
    · rw [if_neg hc] at z
      obtain ⟨z1, xs, z2⟩ := g.on c t z
      exact ⟨z1, xs, kl _ _ z2⟩
theorem GSt.more (g : GSt C H0 H x l a1 a2 a3 a4 a5 own hs fresh higher h B E N) {N' : Nat} (hN : N ≤ N') : GSt C H0 H x l a1 a2 a3 a4 a5 own hs fresh higher h B E N' := by
  obtain ⟨k4, f4, l4, b4⟩ := g.h4
  obtain ⟨k5, f5, l5, b5⟩ := g.h5
  exact ⟨g.sm, g.x_, g.h1, g.h2, g.h3, ⟨k4, f4, by omega, b4⟩, ⟨k5, f5, by omega, b5⟩, fun p k => ⟨by have := (g.hb p k).1; omega, by have := (g.hb p k).2; omega⟩, g.o2, g.o3, g.on, g.nx, g.n1, g.n4, g.n5, g.d14, g.d15, g.d45, g.pl⟩
end

structure Met (g : Gram) (M : List Nd) (B : BgT) (E : EnT) : Prop where
  bg : ∀ p k r d i, (r, d, i) ∈ B p k ↔ (Nd.beg r d i k ∈ M ∧ partAt g r d = some p)
  en : ∀ p k j, j ∈ E p k ↔ Nd.part p k j ∈ M
theorem Met.addE {g : Gram} {M : List Nd} {B : BgT} {E : EnT} (m : Met g M B E) (p : Str) (k j : Nat) : Met g (M ++ [.part p k j]) B (addE E p k j) := by
  refine ⟨fun p' k' r d i => ?_, fun p' k' j' => ?_⟩
  · rw [m.bg, List.mem_append]
    constructor
    · exact fun z => ⟨.inl z.1, z.2⟩
    · rintro ⟨z | z, z2⟩
      · exact ⟨z, z2⟩
      · cases List.mem_singleton.mp z
  · unfold FR.addE
    rw [List.mem_append]
    split
    · rename_i hpk
      obtain ⟨rfl, rfl⟩ := hpk
      rw [List.mem_append, m.en]
      constructor
      · rintro (z | z)
        · exact .inl z
        · cases List.mem_singleton.mp z
          exact .inr (List.mem_singleton.mpr rfl)
      · rintro (z | z)
        · exact .inl z
        · cases List.mem_singleton.mp z
          exact .inr (List.mem_singleton.mpr rfl)
    · rename_i hpk
      rw [m.en]
      constructor
      · exact .inl
      · rintro (z | z)
        · exact z
        · cases List.mem_singleton.mp z
          exact (hpk ⟨rfl, rfl⟩).elim
theorem Met.addB {g : Gram} {M : List Nd} {B : BgT} {E : EnT} (m : Met g M B E) {r d i k : Nat} {p : Str} (hp : partAt g r d = some p) : Met g (M ++ [.beg r d i k]) (addB B p k (r, d, i)) E := by
  refine ⟨fun p' k' r' d' i' => ?_, fun p' k' j' => ?_⟩
  · unfold FR.addB
    rw [List.mem_append]
    split
    · rename_i hpk
      obtain ⟨rfl, rfl⟩ := hpk
      rw [List.mem_append, m.bg]
      constructor
      · rintro (z | z)
        · exact ⟨.inl z.1, z.2⟩
        · cases List.mem_singleton.mp z
          exact ⟨.inr (List.mem_singleton.mpr rfl), hp⟩
      · rintro ⟨z | z, z2⟩
        · exact .inl ⟨z, z2⟩
        · cases List.mem_singleton.mp z
          exact .inr (List.mem_singleton.mpr rfl)
    · rename_i hpk
      rw [m.bg]
      constructor
      · exact fun z => ⟨.inl z.1, z.2⟩
      · rintro ⟨z | z, z2⟩
        · exact ⟨z, z2⟩
        · cases List.mem_singleton.mp z
          rw [hp] at z2
          cases z2
          exact (hpk ⟨rfl, rfl⟩).elim
  · rw [m.en, List.mem_append]
    constructor
    · exact .inl
    · rintro (z | z)
      · exact z
      · cases List.mem_singleton.mp z
theorem Met.addC {g : Gram} {M : List Nd} {B : BgT} {E : EnT} (m : Met g M B E) {r d i k : Nat} (hp : partAt g r d = none) : Met g (M ++ [.beg r d i k]) B E := by
  refine ⟨fun p' k' r' d' i' => ?_, fun p' k' j' => ?_⟩
  · rw [m.bg, List.mem_append]
    constructor
    · exact fun z => ⟨.inl z.1, z.2⟩
    · rintro ⟨z | z, z2⟩
      · exact ⟨z, z2⟩
      · cases List.mem_singleton.mp z
        rw [hp] at z2
        cases z2
  · rw [m.en, List.mem_append]
    constructor
    · exact .inl
    · rintro (z | z)
      · exact z
      · cases List.mem_singleton.mp z

structure GEnv (H0 : Hp) (l : Addr) (xs : List V) (g : Gram) (cs : List Nat) : Prop where
  hl : H0 l = some (.lst xs)
  hds : Dens H0 xs (g.map ruleD)
  hg : okGram g = true
  hc : cs.length ≤ 60

structure MeetIn (C : Addr) (H0 H : Hp) (x l a1 a2 a3 a4 a5 t : Addr) (xs : List V) (g : Gram) (cs : List Nat) (own : Addr → Option Tag) (hs : Hs) (met fresh higher : List Nd) (h : Nat) (B : BgT) (E : EnT) (N : Nat) (y : Nd) : Prop where
  env : GEnv H0 l xs g cs
  st : GSt C H0 H x l a1 a2 a3 a4 a5 own hs fresh higher h B E N
  ht : H t = some (.tup ((keyN y).map kV))
  gr : GrM g cs hs (met ++ [y]) fresh higher h
  lk : lookN hs y = some h
  cl : Cl g hs (· ∈ met)
  mt : Met g met B E
  hN : N ≤ met.length
def MeetK (C : Addr) (H0 : Hp) (x l a1 a2 a3 a4 a5 : Addr) (g : Gram) (cs : List Nat) (hs : Hs) (met : List Nd) (h : Nat) (y : Nd) (Q : VK) : Prop :=
  ∀ H' own' hs' fresh' higher' B' E' N', GSt C H0 H' x l a1 a2 a3 a4 a5 own' hs' fresh' higher' h B' E' N' → GrM g cs hs' (met ++ [y]) fresh' higher' h → Cl g hs' (· ∈ met ++ [y]) → Met g (met ++ [y]) B' E' → N' ≤ met.length + 1 → (∀ z m, lookN hs z = some m → lookN hs' z = some m) → Q .non H'
def spMeetP (C : Addr) : Sp := fun vs H Q _ => ∃ (H0 : Hp) (x l a1 a2 a3 a4 a5 t : Addr) (xs : List V) (g : Gram) (cs : List Nat) (own : Addr → Option Tag) (hs : Hs) (met fresh higher : List Nd) (h : Nat) (B : BgT) (E : EnT) (N : Nat) (p : Str) (k j : Nat), vs = [.ref x, .ref t] ∧ MeetIn C H0 H x l a1 a2 a3 a4 a5 t xs g cs own hs met fresh higher h B E N (.part p k j) ∧ MeetK C H0 x l a1 a2 a3 a4 a5 g cs hs met h (.part p k j) Q
def spMeetB (C : Addr) : Sp := fun vs H Q _ => ∃ (H0 : Hp) (x l a1 a2 a3 a4 a5 t : Addr) (xs : List V) (g : Gram) (cs : List Nat) (own : Addr → Option Tag) (hs : Hs) (met fresh higher : List Nd) (h : Nat) (B : BgT) (E : EnT) (N : Nat) (r d i k : Nat) (p : Str), vs = [.ref x, .ref t, .str p] ∧ partAt g r d = some p ∧ MeetIn C H0 H x l a1 a2 a3 a4 a5 t xs g cs own hs met fresh higher h B E N (.beg r d i k) ∧ MeetK C H0 x l a1 a2 a3 a4 a5 g cs hs met h (.beg r d i k) Q
def spMeet (C : Addr) : Sp := fun vs H Q _ => ∃ (H0 : Hp) (x l a1 a2 a3 a4 a5 t : Addr) (xs : List V) (g : Gram) (cs : List Nat) (own : Addr → Option Tag) (hs : Hs) (met fresh higher : List Nd) (h : Nat) (B : BgT) (E : EnT) (N : Nat) (y : Nd), vs = [.ref x, .ref t] ∧ MeetIn C H0 H x l a1 a2 a3 a4 a5 t xs g cs own hs met fresh higher h B E N y ∧ MeetK C H0 x l a1 a2 a3 a4 a5 g cs hs met h y Q
theorem cl_part {g : Gram} {cs : List Nat} {hs : Hs} {met met' fresh higher : List Nd} {h : Nat} {p : Str} {k j : Nat} {B : BgT} {E : EnT} (c : Cl g hs (· ∈ met)) (gr : GrM g cs hs met' fresh higher h) (lk : lookN hs (.part p k j) = some h) (mt : Met g met B E) (hall : ∀ q ∈ B p k, ∃ v, lookN hs (.beg q.1 (q.2.1 + 1) q.2.2 j) = some v) : Cl g hs (· ∈ met ++ [.part p k j]) := by
  have nb : ∀ {r d i k'}, Nd.beg r d i k' ∈ met ++ [.part p k j] → Nd.beg r d i k' ∈ met := fun z => by
    rcases List.mem_append.mp z with z | z
    · exact z
    · cases List.mem_singleton.mp z
  refine ⟨fun r d i k' p' j' a b m1 m2 hp e1 e2 => ?_, fun r ru i j' a er m1 e1 => c.up r ru i j' a er (nb m1) e1⟩
  have m1' := nb m1
  rcases List.mem_append.mp m2 with z | z
  · exact c.join r d i k' p' j' a b m1' z hp e1 e2
  · cases List.mem_singleton.mp z
    obtain ⟨v, hv⟩ := hall (r, d, i) ((mt.bg p k r d i).mpr ⟨m1', hp⟩)
    rw [lk] at e2
    cases e2
    exact ⟨v, hv, Nat.le_trans (gr.begLe hv) (Nat.le_max_right _ _)⟩
theorem cl_beg {g : Gram} {cs : List Nat} {hs : Hs} {met met' fresh higher : List Nd} {h : Nat} {r d i k : Nat} {p : Str} {B : BgT} {E : EnT} (hp : partAt g r d = some p) (c : Cl g hs (· ∈ met)) (gr : GrM g cs hs met' fresh higher h) (lk : lookN hs (.beg r d i k) = some h) (mt : Met g met B E) (hall : ∀ j ∈ E p k, ∃ v, lookN hs (.beg r (d + 1) i j) = some v) : Cl g hs (· ∈ met ++ [.beg r d i k]) := by
  have np : ∀ {p' k' j'}, Nd.part p' k' j' ∈ met ++ [.beg r d i k] → Nd.part p' k' j' ∈ met := fun z => by
    rcases List.mem_append.mp z with z | z
    · exact z
    · cases List.mem_singleton.mp z
  refine ⟨fun r' d' i' k' p' j' a b m1 m2 hp' e1 e2 => ?_, fun r' ru i' j' a er m1 e1 => ?_⟩
  · have m2' := np m2
    rcases List.mem_append.mp m1 with z | z
    · exact c.join r' d' i' k' p' j' a b z m2' hp' e1 e2
    · cases List.mem_singleton.mp z
      rw [hp] at hp'
      cases hp'
      obtain ⟨v, hv⟩ := hall j' ((mt.en p k j').mpr m2')
      rw [lk] at e1
      cases e1
      exact ⟨v, hv, Nat.le_trans (gr.begLe hv) (Nat.le_max_left _ _)⟩
  · rcases List.mem_append.mp m1 with z | z
    · exact c.up r' ru i' j' a er z e1
    · cases List.mem_singleton.mp z
      unfold partAt at hp
      rw [er] at hp
      have hp : ru.2.1[ru.2.1.length]? = some p := hp
      rw [List.getElem?_eq_none (Nat.le_refl _)] at hp
      cases hp
theorem cl_end {g : Gram} {cs : List Nat} {hs : Hs} {met met' fresh higher : List Nd} {h : Nat} {r i k : Nat} {ru : Rule} (er : g[r]? = some ru) (c : Cl g hs (· ∈ met)) (gr : GrM g cs hs met' fresh higher h) (lk : lookN hs (.beg r ru.2.1.length i k) = some h) (hv : ∃ v, lookN hs (.part ru.1 i k) = some v) : Cl g hs (· ∈ met ++ [.beg r ru.2.1.length i k]) := by
  refine ⟨fun r' d' i' k' p' j' a b m1 m2 hp' e1 e2 => ?_, fun r' ru' i' j' a er' m1 e1 => ?_⟩
  · have m2' : Nd.part p' k' j' ∈ met := by
      rcases List.mem_append.mp m2 with z | z
      · exact z
      · cases List.mem_singleton.mp z
    rcases List.mem_append.mp m1 with z | z
    · exact c.join r' d' i' k' p' j' a b z m2' hp' e1 e2
    · cases List.mem_singleton.mp z
      unfold partAt at hp'
      rw [er] at hp'
      have hp' : ru.2.1[ru.2.1.length]? = some p' := hp'
      rw [List.getElem?_eq_none (Nat.le_refl _)] at hp'
      cases hp'
  · rcases List.mem_append.mp m1 with z | z
    · exact c.up r' ru' i' j' a er' z e1
    · have z := List.mem_singleton.mp z
      injection z with z1 z2 z3 z4
      subst z1 z3 z4
      rw [er] at er'
      cases er'
      obtain ⟨v, hv⟩ := hv
      rw [lk] at e1
      cases e1
      exact ⟨v, hv, gr.anyLe hv⟩
section
variable {C : Addr} {H0 H H' : Hp} {x l a1 a2 a3 a4 a5 : Addr} {own : Addr → Option Tag} {hs : Hs} {fresh higher : List Nd} {h : Nat} {B : BgT} {E : EnT} {N : Nat}

theorem GSt.swap (g : GSt C H0 H x l a1 a2 a3 a4 a5 own hs fresh higher h B E N) {e dx : Addr} (he : H e = none) (kp : ∀ b o, b ≠ x → H b = some o → H' b = some o) (hx : H' x = some (.ins C dx (fldG l a1 (h + 1) a3 e a4 a5))) (he' : H' e = some (.lst [])) (hpl : ∀ b u, H' b = some u → H b = some u ∨ plainH u = true) : GSt C H0 H' x l a1 a3 e a4 a5 (fun c => if c = a3 then some .fr else if c = e then some .hi else if c = a2 then none else own c) hs higher [] (h + 1) B E N := by
  obtain ⟨dx0, hx0⟩ := g.x_
  obtain ⟨t2, f2, n2⟩ := g.h2
  obtain ⟨t3, f3, n3⟩ := g.h3
  obtain ⟨k4, f4, l4, b4⟩ := g.h4
  obtain ⟨k5, f5, l5, b5⟩ := g.h5
  have kt : ∀ t ys, H t = some (.tup ys) → H' t = some (.tup ys) := fun t ys z => kp _ _ (ne_of z hx0 (fun z => nomatch z)) z
  have kl : ∀ t ys, H t = some (.lst ys) → H' t = some (.lst ys) := fun t ys z => kp _ _ (ne_of z hx0 (fun z => nomatch z)) z
  have kd : ∀ t ys, H t = some (.dT ys) → H' t = some (.dT ys) := fun t ys z => kp _ _ (ne_of z hx0 (fun z => nomatch z)) z
  have oe : own e = none := g.fine he
  have no : ∀ c t, own c = some t → t ≠ .fr → t ≠ .hi → (if c = a3 then some Tag.fr else if c = e then some .hi else if c = a2 then none else own c) = some t := fun c t z z1 z2 => by
    rw [if_neg (fun y => by rw [y, g.o3] at z; cases z; exact z2 rfl), if_neg (fun y => by rw [y, oe] at z; cases z), if_neg (fun y => by rw [y, g.o2] at z; cases z; exact z1 rfl)]
    exact z
  have ne3 : e ≠ a3 := fun z => by rw [z, f3] at he; cases he
  refine ⟨fun b o z => ?_, ⟨dx, hx⟩, kd _ _ g.h1, ⟨t3, kl _ _ f3, n3.keep kt⟩, ⟨[], he', rfl, fun i t y z => nomatch z⟩, ⟨k4, kd _ _ f4, l4, fun p k => ?_⟩, ⟨k5, kd _ _ f5, l5, fun p k => ?_⟩, g.hb, if_pos rfl, by rw [if_neg ne3, if_pos rfl], fun c t z => ?_, g.nx, g.n1, g.n4, g.n5, g.d14, g.d15, g.d45, fun b o z => (hpl b o z).elim (g.pl b o) fun z => .inr (.inr (.inr z))⟩
  · exact kp _ _ (fun y => by rw [y, g.nx] at z; cases z) (g.sm _ _ z)
  · rcases b4 p k with z | ⟨c, ts, z1, z2, z3, z4⟩
    · exact .inl z
    · exact .inr ⟨c, ts, z1, no _ _ z2 (fun z => nomatch z) (fun z => nomatch z), kl _ _ z3, z4.keep kt⟩
  · rcases b5 p k with z | ⟨c, z1, z2, z3⟩
    · exact .inl z
    · exact .inr ⟨c, z1, no _ _ z2 (fun z => nomatch z) (fun z => nomatch z), kl _ _ z3⟩
  · by_cases h3 : c = a3
    · subst h3
      exact ⟨(g.on _ _ g.o3).1, _, kl _ _ f3⟩
    · rw [if_neg h3] at z
      by_cases h4 : c = e
      · subst h4
        exact ⟨g.sm.free he, _, he'⟩
      · rw [if_neg h4] at z
        by_cases h2 : c = a2
        · rw [if_pos h2] at z
          cases z
        · rw [if_neg h2] at z
          obtain ⟨z1, xs, z2⟩ := g.on c t z
          exact ⟨z1, xs, kl _ _ z2⟩
end

structure StandOk (g : Gram) (cs : List Nat) (hs : Hs) : Prop where
  nd : (hs.map (·.1)).Nodup
  leg : ∀ x v, lookN hs x = some v → Leg g cs x
  why : ∀ x v, lookN hs x = some v → Why g cs hs x v
  cl : Cl g hs (fun x => ∃ v, lookN hs x = some v)
def spGrow (C : Addr) : Sp := fun vs H Q _ => ∃ (H0 : Hp) (x l a1 a2 a3 a4 a5 : Addr) (xs : List V) (g : Gram) (cs : List Nat) (own : Addr → Option Tag) (hs : Hs) (fresh : List Nd) (B : BgT) (E : EnT), vs = [.ref x] ∧ GEnv H0 l xs g cs ∧ GSt C H0 H x l a1 a2 a3 a4 a5 own hs fresh [] 0 B E 0 ∧ GrM g cs hs [] fresh [] 0 ∧ Met g [] B E ∧
  ∀ H' hs' a2' a3' own' h' B' E' N', GSt C H0 H' x l a1 a2' a3' a4 a5 own' hs' [] [] h' B' E' N' → StandOk g cs hs' → (∀ z m, lookN hs z = some m → lookN hs' z = some m) → Q .non H'
theorem GrM.fin_ {g : Gram} {cs : List Nat} {hs : Hs} {met : List Nd} {h : Nat} (m : GrM g cs hs met [] [] h) (c : Cl g hs (· ∈ met)) : StandOk g cs hs := by
  have key : ∀ x, (∃ v, lookN hs x = some v) → x ∈ met := fun x ⟨v, hv⟩ => by
    rcases mem_look m hv with z | z | z
    · exact z
    · cases z
    · cases z
  exact ⟨m.nd, m.leg, m.why, fun r d i k p j a b m1 m2 hp e1 e2 => c.join r d i k p j a b (key _ m1) (key _ m2) hp e1 e2, fun r ru i j a er m1 e1 => c.up r ru i j a er (key _ m1) e1⟩
end FR


set_option linter.all false
set_option maxRecDepth 100000
set_option maxHeartbeats 4000000
namespace L2
open PySem PySem.Spec PyProof.Rows
def IteS (z : Str) : It :=
  ⟨fun i _ => i < z.cps.size, fun i H v H' => ∃ T c, H T = none ∧ v = .ref T ∧ z.cps[i]? = some c ∧ H' = upd H T (.tup [.int i, .str ⟨#[c]⟩]), fun i _ => i = z.cps.size⟩
theorem draws_any {prog : Program} {w : World} {A : Around} (hh : A.handled = none) (it : Addr) (x : Str) (t : Tok) :
    Draws prog w A it [it] x.cps.size (fun i v => ∃ c u, x.cps[i]? = some c ∧ v = .str ⟨#[c]⟩ u) (fun i h => h.IsStrIter it (strIterType x) x t i) := by
  unfold strIterType
  split
  · exact Draws.strAscii hh it x t
  · exact Draws.strWide hh it x t
theorem turn_enumS {P : Program} {w : World} {K : PySem.W.Frag} {elts : List Expr} {k : Nat} {pos : Pos} (z : Str) (t : Tok) (e it : Addr) :
    Turn P w K (.Tuple elts k pos) (IteS z) [e, it] e (fun i h => (∃ old, IsEnum h e it (i : Nat) old) ∧ h.IsStrIter it (strIterType z) z t i ∧ e ≠ it) where
  mem := by simp
  obj := fun i h st b hb => by
    obtain ⟨⟨old, he⟩, ⟨o, eo, c, d⟩, _⟩ := st
    rcases List.mem_cons.mp hb with rfl | hb
    · exact ⟨_, he, fun v z => by cases z⟩
    · have eb : b = it := by simpa using hb
      subst eb
      exact ⟨o, eo, fun v z => by rw [d] at z; cases z⟩
  keep := fun i h h' st k => by
    obtain ⟨⟨old, he⟩, ⟨o, eo, r⟩, hne⟩ := st
    exact ⟨⟨old, k e (by simp) _ he⟩, ⟨o, k it (by simp) o eo, r⟩, hne⟩
  item := by
    intro X hP hw hK hc i pins s σ H E I hf st hg
    subst hP hw hK
    obtain ⟨⟨old, he⟩, hit, hne⟩ := st
    have hlt : i < z.cps.size := hg
    have nef : e ∉ [it] := by
      simp only [List.mem_cons, List.not_mem_nil, or_false]
      exact hne
    refine wpAny_pyNext_enum_itemD (draws_any (prog := X.prog) (w := X.w) (A := X.A.in1) (I.ok.hd hc) it z t) he hit hlt hne nef fun u' h' tk hPu ho hst hT hsz hk => ?_
    obtain ⟨c, uu, hcz, rfl⟩ := hPu
    refine ⟨_, rfl, wpAny_letOwnedTupleGo_enum (s := { s with heap := h', toks := tk + 1 }) ho fun h'' he' hs' => ?_⟩
    have hltE : e < s.heap.objs.size := Heap.lt_size he
    have hTe : s.heap.objs.size ≠ e := Nat.ne_of_gt hltE
    have kk : ∀ b o, b ∉ [e, it] → s.heap.get? b = some o → h''.get? b = some o := fun b o hb q => by
      have h1 : b ≠ e := fun z => hb (by simp [z])
      have h2 : b ≠ it := fun z => hb (by simp [z])
      exact (hs'.2 b h1).trans (hk b o h1 h2 q)
    have I1 : Inv X pins σ H { s with heap := h'', toks := tk + 1 } := I.turns kk hf
    have hT' : h''.get? s.heap.objs.size = some { cls := .type "tuple", data := .seq #[.int i tk, .str ⟨#[c]⟩ uu] } := (hs'.2 _ hTe).trans hT
    have hfr : H s.heap.objs.size = none := I.hok.fresh (Nat.le_refl _)
    have I2 := I1.trackT (T := s.heap.objs.size) (xs := [.int i, .str ⟨#[c]⟩]) (its := [.int i tk, .str ⟨#[c]⟩ uu]) hfr ⟨_, hT', rfl, _, rfl⟩ (.cons ⟨_, rfl⟩ (.cons ⟨_, rfl⟩ .nil)) (by show 2 ≤ sizeLine; rw [sizeLine_eq]; decide)
      (fun o q => absurd (Heap.lt_size q) (Nat.not_lt.mpr I.sz)) fun p hp z => absurd (Heap.lt_size (I.pin p hp).1) (by rw [z]; exact Nat.lt_irrefl _)
    obtain ⟨o3, e3, r3⟩ := hst
    refine ⟨.ref s.heap.objs.size, _, I2, rfl, ⟨_, c, hfr, rfl, hcz, rfl⟩, ⟨⟨_, by simpa using he'⟩, ⟨o3, (hs'.2 it hne.symm).trans e3, r3⟩, hne⟩, fun b hb => ?_⟩
    obtain ⟨o, eo, _⟩ : ∃ o, s.heap.get? b = some o ∧ True := by
      rcases List.mem_cons.mp hb with rfl | hb
      · exact ⟨_, he, trivial⟩
      · have eb : b = it := by simpa using hb
        subst eb
        obtain ⟨o, eo, _⟩ := hit
        exact ⟨o, eo, trivial⟩
    rw [upd_ne (Nat.ne_of_lt (Heap.lt_size eo))]
    exact (hf b hb).1
  done := by
    intro X hP hw hK hc i pins s σ H E I hf st hg
    subst hP hw hK
    obtain ⟨⟨old, he⟩, hit, hne⟩ := st
    have ei : i = z.cps.size := hg
    subst ei
    exact wpAny_pyNext_enum_endD (draws_any (prog := X.prog) (w := X.w) (A := X.A.in1) (I.ok.hd hc) it z t) he hit fun h' eb => ⟨rfl, I.turns (t' := s.toks) (fun b o hb q => eb b o (fun z => hb (by simp [z])) q) hf⟩
  self := fun _ _ _ _ _ st h => by
    obtain ⟨⟨old, he⟩, _⟩ := st
    exact wpAny_pyIter_enum he h
section
variable {X : Cx} {elts : List Expr} {k : Nat} {tpos : Pos}
def iEnumS (ta : TA) : TI := fun σ H R => ta σ H fun vs H1 => ∃ z, vs = [.str z] ∧ R (IteS z) H1
theorem pi_enumS {a : Expr} {ta : TA} {p pos : Pos} (hg : Gl X "enumerate") (hm : X.mg "enumerate" = none) (ha : PA X [a] ta) (hs : starEach [a] X.env = [(false, eval a X.env)] := by rfl) :
    PI X (.Tuple elts k tpos) (.Call (.Name "enumerate" p) [a] [] pos) (iEnumS ta) := by
  intro pins s σ H R I h
  refine Call_ (ld_blt I hg hm PyProof.Rows.Boot.«enumerate» (PyProof.Rows.callWith_type1 (thn (ha pos pins s σ H _ I h) fun us s1 ⟨vs, H1, I1, r1, q1⟩ => ?_) hs rfl))
  obtain ⟨z, rfl, q⟩ := q1
  obtain ⟨u, rfl, t, rfl⟩ := vals1 r1
  refine call_enumerate_str fun h' he hit hsz hk => ?_
  have I2 : Inv X pins σ H1 { s1 with heap := h' } := I1.kept (t' := s1.toks) hk
  refine wpAny_pyIter_enum he ?_
  refine ⟨s1.heap.objs.size + 1, [s1.heap.objs.size + 1, s1.heap.objs.size], _, _, H1, rfl, I2, turn_enumS z t _ _, ⟨⟨_, by simpa using he⟩, hit, Nat.succ_ne_self _⟩, fun b hb => ?_, q⟩
  rcases List.mem_cons.mp hb with rfl | hb
  · exact I1.fpOk (Nat.le_succ _) (I1.hok.fresh (Nat.le_succ _))
  · have eb : b = s1.heap.objs.size := by simpa using hb
    subst eb
    exact I1.fpOk (Nat.le_refl _) (I1.hok.fresh (Nat.le_refl _))
end
theorem for_enumS {z : Str} {g : TG} {tb : TS} {D : Ends} {σ : St} {H : Hp} (Pv : Nat → St → Hp → Prop) (h0 : Pv 0 σ H)
    (hs : ∀ i c T σ H, z.cps[i]? = some c → H T = none → Pv i σ H → g (.ref T) σ (upd H T (.tup [.int (i : Nat), .str ⟨#[c]⟩])) fun σ2 H2 => tb { D with nx := Pv (i + 1), ct := Pv (i + 1), bk := D.nx } σ2 H2) (hd : ∀ σ H, Pv z.cps.size σ H → D.nx σ H) :
    ∃ W : Nat → Nat → St → Hp → Prop, (∃ m, W 0 m σ H) ∧ ∀ i m σ H, W i m σ H →
      ((IteS z).stop i H ∧ D.nx σ H) ∨ ((IteS z).go i H ∧ ∃ N : St → Hp → Prop, (∀ σ' H', N σ' H' → ∃ m', m' < m ∧ W (i + 1) m' σ' H') ∧ ∀ x H', (IteS z).yld i H x H' → g x σ H' fun σ2 H2 => tb { D with nx := N, ct := N, bk := D.nx } σ2 H2) := by
  refine ⟨fun i m σ H => m = z.cps.size - i ∧ i ≤ z.cps.size ∧ Pv i σ H, ⟨z.cps.size, by simp, Nat.zero_le _, h0⟩, ?_⟩
  rintro i m σ H ⟨rfl, hi, p⟩
  by_cases hlt : i < z.cps.size
  · refine .inr ⟨hlt, Pv (i + 1), fun σ' H' p' => ⟨z.cps.size - (i + 1), by omega, rfl, hlt, p'⟩, fun x H' y => ?_⟩
    obtain ⟨T, c, hT, rfl, hc, rfl⟩ := y
    exact hs i c T σ H hc hT p
  · have ei : i = z.cps.size := by omega
    subst ei
    exact .inl ⟨rfl, hd σ H p⟩
end L2


set_option linter.all false
set_option maxRecDepth 100000
set_option maxHeartbeats 4000000
namespace L2
open PySem PySem.Spec PyProof.Rows
section
variable {X : Cx} {pins : List (Addr × Obj)} {σ : St} {H : Hp} {s : Shared} {d : Addr} {kvs : List (List Key × V)}
theorem Inv.freezeT (I : Inv X pins σ H s) (hd : H d = some (.dT kvs)) : ∃ o, Inv X pins σ (upd H d (.frz o (.dT kvs))) s := by
  have nt : ∀ c xs, H c = some (.tup xs) → c ≠ d := fun c xs r z => by rw [z, hd] at r; cases r
  obtain ⟨_, _, _, _, o, _, _, ho, _⟩ := (show ObjOk X.prog X.w H s.heap d (.dT kvs) from I.hok d _ hd)
  refine ⟨o, I.write (x := d) (e := d) (h' := s.heap) (t' := s.toks) (by rw [hd]; trivial) (.inl rfl) (fun _ _ _ e => e) ⟨o, ho⟩ ⟨ho, ?_⟩⟩
  exact (I.hok d _ hd).stay (fun _ _ _ e => e) (fun b e => by rw [upd_ne (ne_of e hd (fun z => nomatch z))]; exact e) fun b xs e => by rw [upd_ne (nt b xs e)]; exact e
theorem Inv.dropT (I : Inv X pins σ H s) (hd : H d = some (.dT kvs)) : Inv X pins σ (del H d) s := by
  have nn : ∀ c, H c = none → del H d c = none := fun c e => by
    unfold del
    split
    · rfl
    · exact e
  have nt : ∀ c xs, H c = some (.tup xs) → c ≠ d := fun c xs r z => by rw [z, hd] at r; cases r
  have no : ∀ c y, H c = some (.own y) → c ≠ d := fun c xs r z => by rw [z, hd] at r; cases r
  have nb : ∀ c y, H c = some (.tbl y) → c ≠ d := fun c xs r z => by rw [z, hd] at r; cases r
  have nf : ∀ c o y, H c = some (.frz o y) → c ≠ d := fun c o xs r z => by rw [z, hd] at r; cases r
  refine ⟨I.ok, I.os, I.bare, ⟨I.base.keep, I.base.slot, fun b o q n hx => nn _ (I.base.free b o q n hx), I.base.there, fun b xs q => ?_, fun b ob u q => ?_, fun b ps q => ?_⟩, I.loc, I.cell, nn _ I.free, fun x c h1 => nn _ (I.freeC x c h1), fun p hp' => ?_, fun a u ea => ?_, I.len⟩
  · have z := I.base.tups b xs q
    rw [del_ne (nt _ _ z)]; exact z
  · have z := I.base.frzs b ob u q
    rw [del_ne (nf _ _ _ z)]; exact z
  · obtain ⟨mo, z⟩ := I.base.tbls b ps q
    exact ⟨mo, by rw [del_ne (nb _ _ z)]; exact z⟩
  · obtain ⟨p1, p2, p3⟩ := I.pin p hp'
    exact ⟨p1, nn _ p2, p3⟩
  · have ha : a ≠ d := fun z => by rw [z, del_self] at ea; cases ea
    rw [del_ne ha] at ea
    exact (I.hok a u ea).stay (fun _ _ _ e => e) (fun b e => by rw [del_ne (no _ _ e)]; exact e) fun b xs e => by rw [del_ne (nt b xs e)]; exact e
end
section
variable {X : Cx}

def tKeep2 (t : TE) : TE := fun σ H Q => t σ H fun v H1 => ∃ d c1 c2 kvs k1 k2, H1 d = some (.dT kvs) ∧ H1 c1 = some (.dT k1) ∧ H1 c2 = some (.dT k2) ∧ d ≠ c1 ∧ d ≠ c2 ∧ c1 ≠ c2 ∧ ∀ o, Q v (upd (del (del H1 c1) c2) d (.frz o (.dT kvs)))
theorem pe_keep2 {e : Expr} {t : TE} (h : PE X e t) : PE X e (tKeep2 t) := by
  intro pins s σ H Q I hw
  refine thn (h pins s σ H _ I hw) fun v s1 ⟨x, H1, I1, r1, d, c1, c2, kvs, k1, k2, e0, e1, e2, n1, n2, n3, q⟩ => ?_
  have I2 := I1.dropT e1
  have I3 := I2.dropT (d := c2) (kvs := k2) (by rw [del_ne n3.symm]; exact e2)
  obtain ⟨o, I4⟩ := I3.freezeT (d := d) (kvs := kvs) (by rw [del_ne n2, del_ne n1]; exact e0)
  exact ⟨x, _, I4, r1, q o⟩
end
end L2


set_option linter.all false
set_option maxRecDepth 100000
set_option maxHeartbeats 4000000
namespace L2
open PySem PySem.Spec PyProof.Rows
section
variable {prog : Program} {w : World} {A : Around} {E : Value → Shared → Prop} {s : Shared}

theorem items_draw {it d : Addr} {i n ep : Nat} {ok ov : Value} {od : Obj} {es : Array DictEntry} {en : DictEntry} {Q : Option Value → Shared → Prop} (hit : IsItemIter s.heap it d i n ep ok ov)
    (hod : s.heap.get? d = some od) (hdd : od.data = .dict es ep) (hsz : es.size = n) (hx : es[i]? = some en)
    (hQ : ∀ h', IsItemIterOut h' it d (i + 1) n ep en.key en.val s.heap.objs.size → h'.get? s.heap.objs.size = some { cls := .type "tuple", data := .seq #[en.key, en.val] } →
      (∀ b o, b ≠ it → s.heap.get? b = some o → h'.get? b = some o) → Q (some (.ref s.heap.objs.size)) { s with heap := h' }) :
    wpAny (model prog w) A (pyNext (.ref it)) Q E s := by
  obtain ⟨hp, g, dr, tk, os⟩ := s
  subst hsz
  have hT : Shared.TypeIs ⟨hp, g, dr, tk, os⟩ (.ref it) "dict_itemiterator" := ⟨_, hit, rfl⟩
  have hlt' : i < es.size := (Array.getElem?_eq_some_iff.mp hx).1
  have een : es[i] = en := (Array.getElem?_eq_some_iff.mp hx).2
  unfold pyNext
  refine wpAny_bind (wpAny_attempt (wpAny_callSpecial?_slot (name := Str.ofString "__next__") hT F.slot_dict_itemiterator_next
    (wpAny_call_entry F.slot_dict_itemiterator_next hT F.entry_dict_itemiterator_next ?_ (F.args_dict_itemiterator_next_1 _))))
  refine wpAny_bind (wpAny_pure (wpAny_bind (wpAny_bind ?_)))
  first | refine wpAny_bind (wpAny_typeNameOfWhole_itemiter hT (wpAny_pure ?_)) | refine wpAny_bind (wpAny_typeNameOf_itemiter hT (wpAny_pure ?_))
  refine wpAny_bind (wpAny_fieldsOf hit rfl ?_)
  simp only [show Builtin.Dict_items.ownsTuple "dict_itemiterator" = true by decide, if_true]
  show wpAny _ _ (if (Value.ref d == Value.none) = true then _ else _) _ _ _
  rw [if_neg (show ¬ ((Value.ref d == Value.none) = true) from Bool.false_ne_true)]
  refine wpAny_bind (wpAny_pure (wpAny_bind (wpAny_dictEntries hod hdd ?_)))
  rw [if_neg (by simp)]
  refine wpAny_bind (wpAny_pure (wpAny_bind (wpAny_dictEpoch hod hdd ?_)))
  rw [if_neg (by simp)]
  refine wpAny_pure ?_
  simp only [show ¬ ((i : Int) < 0) from by omega, if_false, Int.toNat_natCast, Array.getElem?_eq_getElem hlt', een]
  refine wpAny_bind ?_
  first | refine wpAny_bind (wpAny_typeNameOfWhole_itemiter hT (wpAny_pure ?_)) | refine wpAny_bind (wpAny_typeNameOf_itemiter hT (wpAny_pure ?_))
  refine wpAny_bind (wpAny_isOneOf_itemiter hT ?_)
  show wpAny _ _ (setField (.ref it) 3 (rawInt ((i : Int) + 1)) >>= _) _ _ ⟨hp, g, dr, tk, os⟩
  refine wpAny_bind (wpAny_setField_rec hit (by simp) fun h₁ he₁ hs₁ => ?_)
  replace hs₁ : Heap.SameBut it hp h₁ := hs₁
  replace he₁ : IsItemIter h₁ it d (i + 1) es.size ep ok ov := by
    have e : ((i + 1 : Nat) : Int) = (i : Int) + 1 := by omega
    unfold IsItemIter
    rw [e]
    simpa [rawInt] using he₁
  have hT₁ : Shared.TypeIs ⟨h₁, g, dr, tk, os⟩ (.ref it) "dict_itemiterator" := ⟨_, he₁, rfl⟩
  refine wpAny_bind (wpAny_holding (wpAny_bind (wpAny_isOneOf_itemiter hT₁ (wpAny_bind (wpAny_isOneOf_itemiter hT₁ ?_)))))
  show wpAny _ _ (Builtin.Dict_items.pairFromOwner (.ref it) 6 en.key en.val) _ _ ⟨h₁, g, dr, tk, os⟩
  unfold Builtin.Dict_items.pairFromOwner
  refine wpAny_bind (wpAny_newTuple ?_)
  have he₂ : IsItemIter (h₁.push { cls := .type "tuple", data := .seq #[en.key, en.val] }) it d (i + 1) es.size ep ok ov := Heap.get?_push_of_some _ he₁
  generalize hh₂ : h₁.push { cls := .type "tuple", data := .seq #[en.key, en.val] } = h₂ at he₂
  have hz₁ : h₁.objs.size = hp.objs.size := hs₁.1
  have hil : it < hp.objs.size := Heap.lt_size hit
  have ht₂ : h₂.get? hp.objs.size = some { cls := .type "tuple", data := .seq #[en.key, en.val] } := by rw [← hh₂, ← hz₁]; exact Heap.get?_push_size _ rfl
  have hk₂ : ∀ b o, b ≠ it → hp.get? b = some o → h₂.get? b = some o := fun b o hb e => by rw [← hh₂]; exact Heap.get?_push_of_some _ (hs₁.extBut b o hb e)
  show wpAny _ _ (Builtin.Dict_items.ownedTupleIsFree (.ref it) >>= _) _ _ ⟨h₂, g, dr, tk, os⟩
  rw [hz₁]
  clear hh₂ he₁ hs₁ hT₁ hz₁ h₁
  refine wpAny_bind ?_
  unfold Builtin.Dict_items.ownedTupleIsFree
  refine wpAny_bind (wpAny_field he₂ rfl (x := .none) rfl (wpAny_pure ?_))
  simp only [if_true]
  refine wpAny_bind (wpAny_field he₂ rfl (x := ok) rfl (wpAny_bind (wpAny_field he₂ rfl (x := ov) rfl ?_)))
  refine wpAny_bind (wpAny_setField_rec he₂ (by simp) fun h₃ he₃ hs₃ => ?_)
  replace hs₃ : Heap.SameBut it h₂ h₃ := hs₃
  replace he₃ : IsItemIter h₃ it d (i + 1) es.size ep en.key ov := he₃
  refine wpAny_bind (wpAny_setField_rec he₃ (by simp) fun h₄ he₄ hs₄ => ?_)
  replace hs₄ : Heap.SameBut it h₃ h₄ := hs₄
  replace he₄ : IsItemIter h₄ it d (i + 1) es.size ep en.key en.val := he₄
  refine wpAny_bind (wpAny_setField_rec he₄ (by simp) fun h₅ he₅ hs₅ => ?_)
  replace hs₅ : Heap.SameBut it h₄ h₅ := hs₅
  replace he₅ : IsItemIterOut h₅ it d (i + 1) es.size ep en.key en.val hp.objs.size := he₅
  refine wpAny_bind (wpAny_setField_rec he₅ (by simp) fun h₆ he₆ hs₆ => ?_)
  replace hs₆ : Heap.SameBut it h₅ h₆ := hs₆
  replace he₆ : IsItemIterOut h₆ it d (i + 1) es.size ep en.key en.val hp.objs.size := he₆
  refine wpAny_bind (wpAny_letGo (wpAny_pure (wpAny_pure ⟨_, rfl, wpAny_pure (hQ h₆ he₆ ?_ ?_)⟩)))
  · exact hs₆.extBut _ _ (Nat.ne_of_gt hil) (hs₅.extBut _ _ (Nat.ne_of_gt hil) (hs₄.extBut _ _ (Nat.ne_of_gt hil) (hs₃.extBut _ _ (Nat.ne_of_gt hil) ht₂)))
  · exact fun b o hb e => hs₆.extBut b o hb (hs₅.extBut b o hb (hs₄.extBut b o hb (hs₃.extBut b o hb (hk₂ b o hb e))))
theorem items_out {it d : Addr} {n ep : Nat} {ok ov : Value} {od : Obj} {es : Array DictEntry} {Q : Option Value → Shared → Prop} (hh : A.handled = none) (hit : IsItemIter s.heap it d n n ep ok ov)
    (hod : s.heap.get? d = some od) (hdd : od.data = .dict es ep) (hsz : es.size = n) (hQ : ∀ h', Heap.ExtBut it s.heap h' → Q none { s with heap := h' }) : wpAny (model prog w) A (pyNext (.ref it)) Q E s := by
  subst hsz
  have hT : s.TypeIs (.ref it) "dict_itemiterator" := ⟨_, hit, rfl⟩
  unfold pyNext
  refine wpAny_bind (wpAny_attempt (wpAny_callSpecial?_slot (name := Str.ofString "__next__") hT F.slot_dict_itemiterator_next
    (wpAny_call_entry F.slot_dict_itemiterator_next hT F.entry_dict_itemiterator_next ?_ (F.args_dict_itemiterator_next_1 _))))
  refine wpAny_bind (wpAny_pure (wpAny_bind (wpAny_bind ?_)))
  first | refine wpAny_bind (wpAny_typeNameOfWhole_itemiter hT (wpAny_pure ?_)) | refine wpAny_bind (wpAny_typeNameOf_itemiter hT (wpAny_pure ?_))
  refine wpAny_bind (wpAny_fieldsOf hit rfl ?_)
  simp only [show Builtin.Dict_items.ownsTuple "dict_itemiterator" = true by decide, if_true]
  show wpAny _ _ (if (Value.ref d == Value.none) = true then _ else _) _ _ s
  rw [if_neg (show ¬ ((Value.ref d == Value.none) = true) from Bool.false_ne_true)]
  refine wpAny_bind (wpAny_pure (wpAny_bind (wpAny_dictEntries hod hdd ?_)))
  rw [if_neg (by simp)]
  refine wpAny_bind (wpAny_pure (wpAny_bind (wpAny_dictEpoch hod hdd ?_)))
  rw [if_neg (by simp)]
  refine wpAny_pure ?_
  simp only [show ¬ ((es.size : Int) < 0) from by omega, if_false, Int.toNat_natCast, Array.getElem?_eq_none (Nat.le_refl es.size)]
  refine wpAny_bind ?_
  first | refine wpAny_bind (wpAny_typeNameOfWhole_itemiter hT (wpAny_pure ?_)) | refine wpAny_bind (wpAny_typeNameOf_itemiter hT (wpAny_pure ?_))
  show wpAny _ _ (setField (.ref it) 2 .none >>= _) _ _ s
  refine wpAny_bind (wpAny_setField hit rfl (by simp) ?_)
  show wpAny _ _ (newExc (.type "StopIteration") [] >>= _) _ _ _
  refine wpAny_bind ?_
  simp only [newExc, newTuple]
  refine wpAny_bind (wpAny_newObj_type ?_ (by size_fits))
  refine wpAny_bind (m := firstArgMember _ _) (wpAny_of_eq (a := Value.none) (by first | rfl | (simp only [firstArgMember]; rfl)) ?_)
  refine wpAny_newObj_type ?_ (by size_fits)
  simp only [raiseNew]
  refine wpAny_bind (wpAny_handled ?_)
  rw [show A.in1.handled = none from hh]
  refine wpAny_bind (wpAny_pure (wpAny_throw ?_))
  refine wpAny_bind (wpAny_isInstance (T := "StopIteration") (b := true) ⟨_, Heap.get?_push_size _ rfl, rfl⟩ isSubtype_stop ?_)
  exact wpAny_pure (hQ _ (((Heap.SameBut.update ..).extBut.push _).push _))
theorem items_iter {v d : Addr} {od : Obj} {es : Array DictEntry} {ep : Nat} {Q : Value → Shared → Prop} (hv : s.heap.IsItemsView v d) (ho : s.heap.get? d = some od) (hdat : od.data = .dict es ep)
    (hQ : Q (.ref s.heap.objs.size) { s with heap := s.heap.push { cls := .type "dict_itemiterator", data := .fields #[.none, .bool false, .ref d, .int 0 0, .int es.size 0, .int ep 0, .none, .none] } }) :
    wpAny (model prog w) A (pyIter (.ref v)) Q E s := by
  obtain ⟨ov, hov, hcv, hdv⟩ := id hv
  refine wpAny_pyIter_slot hv.typeIs F.slot_dict_items_iter (wpAny_call_entry F.slot_dict_items_iter hv.typeIs F.entry_dict_items_iter ?_ (F.args_dict_items_iter_1 _))
  unfold Builtin.«dict_items.__iter__»
  refine wpAny_bind (wpAny_pure (wpAny_bind ?_))
  unfold Builtin.Dict_items.dictOf
  refine wpAny_bind (wpAny_field hov hdv (x := .ref d) rfl (wpAny_pure (wpAny_bind ?_)))
  unfold Builtin.Dict_items.newIterator
  refine wpAny_bind (wpAny_dictEntries ho hdat (wpAny_bind (wpAny_dictEpoch ho hdat ?_)))
  simp only [show Builtin.Dict_items.ownsTuple "dict_itemiterator" = true by decide, if_true]
  refine wpAny_newObj_type (wpAny_pure ⟨_, rfl, "dict_itemiterator", _, ⟨_, Heap.get?_push_size _ rfl, rfl⟩, F.slot_dict_itemiterator_next.lookup, ?_⟩)
    (by simp only [sizeOk, Builtin.Dict_items.ownedTupleFields, List.size_toArray, List.length_append, List.length_cons, List.length_nil, sizeLine_eq]; omega)
  simpa [rawInt, Builtin.Dict_items.ownedTupleFields] using hQ
theorem items_view {d : Addr} {od : Obj} {Q : Value → Shared → Prop} (hd : (d == sysModules) = false) (ho : s.heap.get? d = some od) (hc : od.cls = .type "dict") (h : Q (.ref s.heap.objs.size) { s with heap := s.heap.push { cls := .type "dict_items", data := .fields #[.ref d] } }) :
    wpAny (model prog w) A (call (.builtin "dict.items") [.ref d]) Q E s := by
  have hT : s.TypeIs (.ref d) "dict" := ⟨od, ho, hc⟩
  refine wpAny_call_entry PySem.F.slot_dict_items hT PySem.F.entry_dict_items ?_ (PySem.F.args_dict_items_1 _)
  unfold Builtin.«dict.items»
  refine wpAny_bind ?_
  unfold Builtin.Dict.noArgs
  refine wpAny_bind (wpAny_notOrdered_dict hT ?_)
  show wpAny _ _ (pure d) _ _ s
  refine wpAny_pure ?_
  show wpAny _ _ (Builtin.Dict.showsAll d >>= _) _ _ s
  unfold Builtin.Dict.showsAll
  rw [if_neg (by rw [hd]; exact Bool.false_ne_true)]
  refine wpAny_bind (wpAny_pure ?_)
  exact wpAny_bind (wpAny_newObj_type (wpAny_pure ⟨_, rfl, h⟩))
end

def ItdT (d : Addr) (o : Obj) (kvs : List (List Key × V)) : It :=
  ⟨fun i H => H d = some (.frz o (.dT kvs)) ∧ i < kvs.length, fun i H v H' => ∃ T b kv, H T = none ∧ v = .ref T ∧ kvs[i]? = some kv ∧ H b = some (.tup (kv.1.map kV)) ∧ H' = upd H T (.tup [.ref b, kv.2]), fun i H => H d = some (.frz o (.dT kvs)) ∧ i = kvs.length⟩
theorem KT.get {H : Hp} {kvs : List (List Key × V)} {xs : List (List Key × Addr × Value)} (r : KT H kvs xs) : ∀ {i : Nat} {kv : List Key × V}, kvs[i]? = some kv → ∃ b u, xs[i]? = some (kv.1, b, u) ∧ H b = some (.tup (kv.1.map kV)) ∧ RelV kv.2 u := by
  unfold KT at r
  induction r with
  | nil => intro i kv e; cases e
  | @cons p q ps qs h t ih =>
    intro i kv e
    cases i with
    | zero =>
      cases e
      exact ⟨q.2.1, q.2.2, by rw [h.1]; rfl, h.2.1, h.2.2⟩
    | succ j => exact ih (i := j) e
theorem turn_itemsT {P : Program} {w : World} {K : PySem.W.Frag} {elts : List Expr} {k : Nat} {pos : Pos} {d it : Addr} {o : Obj} {kvs : List (List Key × V)} {es : Array DictEntry} {ep : Nat} (ho : o.data = .dict es ep) :
    Turn P w K (.Tuple elts k pos) (ItdT d o kvs) [it] it (fun i h => ∃ ok ov, IsItemIter h it d i kvs.length ep ok ov) where
  mem := by simp
  obj := fun i h st b hb => by
    obtain ⟨ok, ov, he⟩ := st
    have eb : b = it := by simpa using hb
    subst eb
    exact ⟨_, he, fun v z => by cases z⟩
  keep := fun i h h' st k => by
    obtain ⟨ok, ov, he⟩ := st
    exact ⟨ok, ov, k it (by simp) _ he⟩
  item := by
    intro X hP hw hK hc i pins s σ H E I hf st hg
    subst hP hw hK
    obtain ⟨ok, ov, he⟩ := st
    obtain ⟨hd, hi⟩ := hg
    obtain ⟨hod, hsz, lo, xs, rel, o2, es2, ep2, h1, h2, h3, h4, h5⟩ := (show ObjOk X.prog X.w H s.heap d (.frz o (.dT kvs)) from I.hok d _ hd)
    rw [hod] at h1
    cases h1
    rw [ho] at h3
    cases h3
    have ekv : kvs[i]? = some kvs[i] := by simp [hi]
    obtain ⟨b, u, hx, hb, ru⟩ := KT.get rel ekv
    have hlen : es.size = kvs.length := by
      rw [← Array.length_toList, h4, List.length_map, Paired.length rel]
    have hen : es[i]? = some (entryOfKey (tupleKind (mixKind X.prog X.w)) (kvs[i].1, b, u)) := by
      rw [← Array.getElem?_toList, h4, List.getElem?_map, hx]
      rfl
    refine items_draw he hod ho hlen hen fun h' hout hT hk => ?_
    refine ⟨_, rfl, wpAny_letOwnedTupleGo_items (s := { s with heap := h' }) hout fun h'' he' hs' => ?_⟩
    have hlt : it < s.heap.objs.size := Heap.lt_size he
    have hTe : s.heap.objs.size ≠ it := Nat.ne_of_gt hlt
    have kk : ∀ b o, b ∉ [it] → s.heap.get? b = some o → h''.get? b = some o := fun b o hb q => by
      have h1 : b ≠ it := fun z => hb (by simp [z])
      exact (hs'.2 b h1).trans (hk b o h1 q)
    have I1 : Inv X pins σ H { s with heap := h'' } := I.turns (t' := s.toks) kk hf
    have hT' : h''.get? s.heap.objs.size = some { cls := .type "tuple", data := .seq #[.ref b, u] } := (hs'.2 _ hTe).trans hT
    have hfr : H s.heap.objs.size = none := I.hok.fresh (Nat.le_refl _)
    have I2 := I1.trackT (T := s.heap.objs.size) (xs := [.ref b, kvs[i].2]) (its := [.ref b, u]) hfr ⟨_, hT', rfl, _, rfl⟩ (.cons rfl (.cons ru .nil)) (by show 2 ≤ sizeLine; rw [sizeLine_eq]; decide)
      (fun o q => absurd (Heap.lt_size q) (Nat.not_lt.mpr I.sz)) fun p hp z => absurd (Heap.lt_size (I.pin p hp).1) (by rw [z]; exact Nat.lt_irrefl _)
    refine ⟨.ref s.heap.objs.size, _, I2, rfl, ⟨_, b, _, hfr, rfl, ekv, hb, rfl⟩, ⟨_, _, he'⟩, fun b hb => ?_⟩
    have eb : b = it := by simpa using hb
    subst eb
    rw [upd_ne (Nat.ne_of_lt hlt)]
    exact (hf b hb).1
  done := by
    intro X hP hw hK hc i pins s σ H E I hf st hg
    subst hP hw hK
    obtain ⟨ok, ov, he⟩ := st
    obtain ⟨hd, hi⟩ := hg
    obtain ⟨hod, hsz, lo, xs, rel, o2, es2, ep2, h1, h2, h3, h4, h5⟩ := (show ObjOk X.prog X.w H s.heap d (.frz o (.dT kvs)) from I.hok d _ hd)
    rw [hod] at h1
    cases h1
    rw [ho] at h3
    cases h3
    have hlen : es.size = kvs.length := by
      rw [← Array.length_toList, h4, List.length_map, Paired.length rel]
    subst hi
    exact items_out (I.ok.hd hc) he hod ho hlen fun h' eb => ⟨rfl, I.turns (t' := s.toks) (fun b o hb q => eb b o (fun z => hb (by simp [z])) q) hf⟩
  self := fun _ _ _ _ _ st h => by
    obtain ⟨ok, ov, he⟩ := st
    exact wpAny_pyIter_itemiter he h
section
variable {X : Cx} {elts : List Expr} {k : Nat} {tpos : Pos}
def iItemsT (to : TE) : TI := fun σ H R => to σ H fun x H1 => ∃ d o kvs, x = .ref d ∧ H1 d = some (.frz o (.dT kvs)) ∧ R (ItdT d o kvs) H1
theorem pi_itemsT {oe : Expr} {to : TE} {apos cpos : Pos} (ho : PE X oe to) (hbase : attributeBase oe "items" X.env (eval oe X.env) = eval oe X.env := by rfl) (hline : (apos.endLine == cpos.line) = true := by rfl) :
    PI X (.Tuple elts k tpos) (.Call (.Attribute oe "items" apos) [] [] cpos) (iItemsT to) := by
  intro pins s σ H R I h
  refine wpAny_Call_method0_late hbase hline (thn (ho pins s σ H _ I h) fun v s1 ⟨x, H1, I1, r1, d, o, kvs, ex, hd, q⟩ => ?_)
  subst ex
  cases r1
  obtain ⟨hod, hsz, lo, xs, rel, o2, es, ep, h1, hex, hdat, h4, h5⟩ := (show ObjOk X.prog X.w H1 s1.heap d (.frz o (.dT kvs)) from I1.hok d _ hd)
  rw [hod] at h1
  cases h1
  have hlen : es.size = kvs.length := by
    rw [← Array.length_toList, h4, List.length_map, Paired.length rel]
  refine ⟨"dict", "dict.items", F.plainAttrs_dict, F.slot_dict_items, F.type_dict_items, ⟨o, hod, hex.1⟩, fun a e => ?_, Calls.callWith_builtin rfl (PySem.evalArgs_none ?_)⟩
  · cases e
    exact ⟨o, hod, hex.2.1⟩
  refine items_view lo hod hex.1 ?_
  have k1 : ∀ b u, s1.heap.get? b = some u → (s1.heap.push { cls := .type "dict_items", data := .fields #[.ref d] }).get? b = some u := fun b u e => Heap.get?_push_of_some _ e
  have I2 : Inv X pins σ H1 { s1 with heap := s1.heap.push { cls := .type "dict_items", data := .fields #[.ref d] } } := I1.kept (t' := s1.toks) k1
  refine items_iter (d := d) ⟨_, Heap.get?_push_size _ rfl, rfl, rfl⟩ (k1 _ _ hod) hdat ?_
  have k2 : ∀ b u, (s1.heap.push { cls := .type "dict_items", data := .fields #[.ref d] }).get? b = some u → ((s1.heap.push { cls := .type "dict_items", data := .fields #[.ref d] }).push { cls := .type "dict_itemiterator", data := .fields #[.none, .bool false, .ref d, .int 0 0, .int es.size 0, .int ep 0, .none, .none] }).get? b = some u := fun b u e => Heap.get?_push_of_some _ e
  have I3 := I2.kept (t' := s1.toks) k2
  refine ⟨_, [_], _, _, H1, rfl, I3, turn_itemsT (o := o) hdat, ⟨.none, .none, ?_⟩, fun b hb => ?_, q⟩
  · rw [← hlen]
    exact Heap.get?_push_size _ rfl
  · have eb := List.mem_singleton.mp hb
    rw [eb]
    exact I2.fpOk (Nat.le_refl _) (I2.hok.fresh (Nat.le_refl _))
end
theorem for_itemsT {d : Addr} {o : Obj} {kvs : List (List Key × V)} {g : TG} {tb : TS} {D : Ends} {σ : St} {H : Hp} (Pv : Nat → St → Hp → Prop) (h0 : Pv 0 σ H) (hl : ∀ i σ H, i ≤ kvs.length → Pv i σ H → H d = some (.frz o (.dT kvs)))
    (hs : ∀ i kv b T σ H, kvs[i]? = some kv → H b = some (.tup (kv.1.map kV)) → H T = none → Pv i σ H → g (.ref T) σ (upd H T (.tup [.ref b, kv.2])) fun σ2 H2 => tb { D with nx := Pv (i + 1), ct := Pv (i + 1), bk := D.nx } σ2 H2) (hd : ∀ σ H, Pv kvs.length σ H → D.nx σ H) :
    ∃ W : Nat → Nat → St → Hp → Prop, (∃ m, W 0 m σ H) ∧ ∀ i m σ H, W i m σ H →
      ((ItdT d o kvs).stop i H ∧ D.nx σ H) ∨ ((ItdT d o kvs).go i H ∧ ∃ N : St → Hp → Prop, (∀ σ' H', N σ' H' → ∃ m', m' < m ∧ W (i + 1) m' σ' H') ∧ ∀ x H', (ItdT d o kvs).yld i H x H' → g x σ H' fun σ2 H2 => tb { D with nx := N, ct := N, bk := D.nx } σ2 H2) := by
  refine ⟨fun i m σ H => m = kvs.length - i ∧ i ≤ kvs.length ∧ Pv i σ H, ⟨kvs.length, by simp, Nat.zero_le _, h0⟩, ?_⟩
  rintro i m σ H ⟨rfl, hi, p⟩
  have q := hl i σ H hi p
  by_cases hlt : i < kvs.length
  · refine .inr ⟨⟨q, hlt⟩, Pv (i + 1), fun σ' H' p' => ⟨kvs.length - (i + 1), by omega, rfl, hlt, p'⟩, fun x H' y => ?_⟩
    obtain ⟨T, b, kv, hT, rfl, hkv, hb, rfl⟩ := y
    exact hs i kv b T σ H hkv hb hT p
  · have ei : i = kvs.length := by omega
    subst ei
    exact .inl ⟨⟨q, rfl⟩, hd σ H p⟩
end L2


set_option linter.all false
set_option maxRecDepth 100000
set_option maxHeartbeats 4000000
namespace L2
open PySem PySem.Spec PyProof.Rows
section
variable {X : Cx}
theorem call_isiE (K : PySem.W.Frag) (hK : X.K = K) : CallR X (.builtin "isinstance") (fun xs H Q => (∃ x c t u b, xs = [x, c] ∧ TyOf K H x t ∧ clsV c = some u ∧ PySem.W.kitOne K t u = some b ∧ Q (.bl b) H) ∨
    ∃ a o kvs c u b, xs = [.ref a, c] ∧ H a = some (.frz o (.dT kvs)) ∧ clsV c = some u ∧ PySem.W.kitOne K (.type "dict") u = some b ∧ Q (.bl b) H) := by
  subst hK
  intro pins s σ H xs us Q I r h
  rcases h with h | ⟨a, o, kvs, c, u, b, rfl, ha, rc, e, q⟩
  · exact call_isi pins s σ H xs us Q I r h
  · obtain ⟨v, w, rfl, rv, rw'⟩ := vals2 r
    cases rv
    have eu : w = u := clsV_rel rc rw'
    subst eu
    obtain ⟨h0, _, _, xs, _, o2, es, ep, h1, h2, _⟩ := (show ObjOk X.prog X.w H s.heap a (.frz o (.dT kvs)) from I.hok a _ ha)
    exact PySem.W.kia_one PySem.W.kitx_dict I.kIn ⟨o2, h1, h2.1⟩ e (fun z => nomatch z) fun tk => ⟨.bl b, H, I.tok tk, rfl, q⟩
end
end L2


set_option linter.all false
set_option maxRecDepth 100000
set_option maxHeartbeats 4000000
namespace FR
open PySem L2
def top (i : Nat) : Stmt := PySem.Challenge.pw_forestread_k21_spans_stand.main.body.getD i (.Pass ⟨0, 0, 0, 0⟩)
abbrev s_is_whole : Stmt := top 10
abbrev s_stands_in_texts : Stmt := top 11
abbrev s_is_sign : Stmt := top 12
abbrev s_is_name : Stmt := top 13
abbrev s_is_part : Stmt := top 14
abbrev s_is_worth : Stmt := top 20
abbrev s_are_parts : Stmt := top 21
abbrev s_is_rule : Stmt := top 22
abbrev s_is_grammar : Stmt := top 23
abbrev s_checked : Stmt := top 24
structure Adr where
  NoGrammar : Addr
  NoText : Addr
  Growth : Addr
  none_ : Addr
structure Txt (K : PySem.W.Frag) (mg : Str → Option Value) (C : Adr) : Prop where
  z_isinstance : mg "isinstance" = none
  z_int : mg "int" = none
  z_bool : mg "bool" = none
  z_ord : mg "ord" = none
  z_str : mg "str" = none
  z_len : mg "len" = none
  z_all : mg "all" = none
  z_tuple : mg "tuple" = none
  z_list : mg "list" = none
  z_enumerate : mg "enumerate" = none
  z_range : mg "range" = none
  z_dict : mg "dict" = none
  z_sum : mg "sum" = none
  z_reversed : mg "reversed" = none
  z_max : mg "max" = none
  g_FIRST_CODE : ∃ t, mg "FIRST_CODE" = some (.int 32 t)
  g_LAST_CODE : ∃ t, mg "LAST_CODE" = some (.int 126 t)
  g_PERCENT_CODE : ∃ t, mg "PERCENT_CODE" = some (.int 37 t)
  g_MOST_LETTERS : ∃ t, mg "MOST_LETTERS" = some (.int 8 t)
  g_MOST_PARTS : ∃ t, mg "MOST_PARTS" = some (.int 6 t)
  g_MOST_RULES : ∃ t, mg "MOST_RULES" = some (.int 60 t)
  g_MOST_SIGNS : ∃ t, mg "MOST_SIGNS" = some (.int 60 t)
  n_NoGrammar : mg "NoGrammar" = some (.ref C.NoGrammar)
  n_NoText : mg "NoText" = some (.ref C.NoText)
  n_Growth : mg "Growth" = some (.ref C.Growth)
  x_NoGrammar : Exc K C.NoGrammar
  x_NoText : Exc K C.NoText
  cl_Growth : Cls K C.Growth
  na_Growth_rules : NoAttr K C.Growth "rules"
  na_Growth_heights : NoAttr K C.Growth "heights"
  na_Growth_height : NoAttr K C.Growth "height"
  na_Growth_fresh : NoAttr K C.Growth "fresh"
  na_Growth_higher : NoAttr K C.Growth "higher"
  na_Growth_begun : NoAttr K C.Growth "begun"
  na_Growth_ends : NoAttr K C.Growth "ends"
theorem nd_P1b_letter : (["letter"] : List Str).Nodup := by decide +kernel
theorem nd_P1b_part : (["part"] : List Str).Nodup := by decide +kernel
section
variable {P : Program} {w : World} {K : PySem.W.Frag} {mg : Str → Option Value} {base : Heap} {C : Adr}
theorem sc_is_whole : FnScope ["thing"] ["thing"] (defScope s_is_whole) := ⟨rfl, rfl, rfl, by decide +kernel, rfl, by decide +kernel, by decide +kernel⟩
theorem ok_is_whole {f : Addr} {fd : FuncData} (F : Fun K "is_whole" "is_whole" s_is_whole f fd) (T : Txt K mg C) : FnOk P w K mg base CX0 1 f fd ["thing"] (spIs isWholeD) := by
  refine F.ok sc_is_whole (fun vs H Q E h => ?_) (fun cdv A outer s H vs Q E hr h => ?_)
  · obtain ⟨x, d, rfl, _⟩ := h
    rfl
  · obtain ⟨x, d, rfl, den, sh, hp, q⟩ := h
    refine ⟨_, (pss_one (ps_ret (pe_and (pe_callB (call_isiK K rfl) (by rfl) T.z_isinstance PyProof.Rows.Boot.«isinstance» (pa_cons (pv 0) (pa_cons (pe_bltn (v := .ty "int") (by rfl) T.z_int PyProof.Rows.Boot.«int» rfl) pa_nil))) (pe_one (pe_not (pe_callB (call_isiK K rfl) (by rfl) T.z_isinstance PyProof.Rows.Boot.«isinstance» (pa_cons (pv 0) (pa_cons (pe_bltn (v := .ty "bool") (by rfl) T.z_bool PyProof.Rows.Boot.«bool» rfl) pa_nil)))))))), ?_⟩
    refine ⟨_, rfl, _, _, _, _, _, rfl, den.ty, rfl, kit_int d, _, rfl, ?_⟩
    refine and_read (g := !isBoolD d) (fun _ R hR => ⟨_, rfl, _, _, _, _, _, rfl, den.ty, rfl, kit_bool d, _, rfl, hR⟩) ?_
    cases d <;> exact q
theorem sc_stands_in_texts : FnScope ["sign", "code"] ["sign"] (defScope s_stands_in_texts) := ⟨rfl, rfl, rfl, by decide +kernel, rfl, by decide +kernel, by decide +kernel⟩
theorem ok_stands_in_texts {f : Addr} {fd : FuncData} (F : Fun K "stands_in_texts" "stands_in_texts" s_stands_in_texts f fd) (T : Txt K mg C) : FnOk P w K mg base CX0 1 f fd ["sign"] (spStands) := by
  obtain ⟨t_FIRST_CODE, g_FIRST_CODE⟩ := T.g_FIRST_CODE
  obtain ⟨t_LAST_CODE, g_LAST_CODE⟩ := T.g_LAST_CODE
  obtain ⟨t_PERCENT_CODE, g_PERCENT_CODE⟩ := T.g_PERCENT_CODE
  refine F.ok sc_stands_in_texts (fun vs H Q E h => ?_) (fun cdv A outer s H vs Q E hr h => ?_)
  · obtain ⟨c, rfl, _⟩ := h
    rfl
  · obtain ⟨c, rfl, q⟩ := h
    refine ⟨_, (pss_cons (ps_set (i := 1) sc_stands_in_texts.nd rfl (Or.inl rfl) (pe_callB call_ord (by rfl) T.z_ord PyProof.Rows.Boot.«ord» (pa_cons (pv 0) pa_nil)))
      (pss_one (ps_ret (pe_and (pe_chain op_le op_le (pe_glob (v := .int 32) (by rfl) g_FIRST_CODE ⟨_, rfl⟩) (pv 1) (pe_glob (v := .int 126) (by rfl) g_LAST_CODE ⟨_, rfl⟩)) (pe_one (pe_cmpR op_ne (pv 1) (pe_glob (v := .int 37) (by rfl) g_PERCENT_CODE ⟨_, rfl⟩) (nomark _))))))), ?_⟩
    refine ⟨_, rfl, _, rfl, rfl, ?_⟩
    refine ⟨_, rfl, _, _, rfl, rfl, _, rfl, ?_⟩
    have ec : (((⟨#[c]⟩ : Str).cps.getD 0 0 : Nat) : Int) = (c : Int) := rfl
    rw [ec]
    refine ite2 (fun h1 => ?_) fun h1 => ?_
    · refine ⟨_, _, rfl, rfl, _, rfl, ?_⟩
      refine ite2 (fun h2 => ?_) fun h2 => ?_
      · refine ⟨_, rfl, rfl, ?_⟩
        have e : (!decide (V.int (c : Int) = V.int 37)) = good c := by
          simp only [decide_eq_true_eq] at h1 h2
          unfold good
          have a1 : 32 ≤ c := by omega
          have a2 : c ≤ 126 := by omega
          rw [decide_eq_true a1, decide_eq_true a2]
          by_cases h3 : c = 37
          · subst h3; rfl
          · rw [decide_eq_false h3, decide_eq_false (fun z => h3 (by have := V.int.inj z; omega))]; rfl
        rw [e]
        exact q
      · have e : good c = false := by
          simp only [decide_eq_true_eq] at h2
          unfold good
          rw [decide_eq_false (show ¬ c ≤ 126 by omega)]
          simp
        rw [e] at q
        exact q
    · refine ⟨_, rfl, iteF ?_⟩
      have e : good c = false := by
        simp only [decide_eq_true_eq] at h1
        unfold good
        rw [decide_eq_false (show ¬ 32 ≤ c by omega)]
        simp
      rw [e] at q
      exact q
theorem first39 (z : Str) : decide (V.str ⟨#[z.cps.getD 0 0]⟩ = V.str "'") = decide (z.cps.getD 0 0 = 39) := by
  by_cases h : z.cps.getD 0 0 = 39
  · rw [h]; decide +kernel
  · rw [decide_eq_false h, decide_eq_false]
    intro e
    apply h
    have e6 : (({ cps := #[z.cps.getD 0 0] } : Str)).cps.getD 0 0 = (("'" : Str)).cps.getD 0 0 := congrArg (fun s : Str => s.cps.getD 0 0) (V.str.inj e)
    exact (show z.cps.getD 0 0 = (({ cps := #[z.cps.getD 0 0] } : Str)).cps.getD 0 0 from rfl).trans (e6.trans (by decide +kernel))
theorem sc_is_sign : FnScope ["thing"] ["thing"] (defScope s_is_sign) := ⟨rfl, rfl, rfl, by decide +kernel, rfl, by decide +kernel, by decide +kernel⟩
theorem ok_is_sign {f : Addr} {fd : FuncData} (F : Fun K "is_sign" "is_sign" s_is_sign f fd) (T : Txt K mg C) (U_stands_in_texts : Used P w K mg CX0 1 "stands_in_texts" ["sign"] (spStands)) : FnOk P w K mg base CX0 2 f fd ["thing"] (spIs isSignD) := by
  obtain ⟨f_stands_in_texts, fd_stands_in_texts, G_stands_in_texts, m_stands_in_texts, k_stands_in_texts, b_stands_in_texts⟩ := U_stands_in_texts.ok
  refine F.ok sc_is_sign (fun vs H Q E h => ?_) (fun cdv A outer s H vs Q E hr h => ?_)
  · obtain ⟨x, d, rfl, _⟩ := h
    rfl
  · obtain ⟨x, d, rfl, den, sh, hp, q⟩ := h
    refine ⟨_, (pss_one (ps_ret (pe_and (pe_callB (call_isiK K rfl) (by rfl) T.z_isinstance PyProof.Rows.Boot.«isinstance» (pa_cons (pv 0) (pa_cons (pe_bltn (v := .ty "str") (by rfl) T.z_str PyProof.Rows.Boot.«str» rfl) pa_nil))) (pe_and (pe_cmpR op_eq (pe_callB call_len_str (by rfl) T.z_len PyProof.Rows.Boot.«len» (pa_cons (pv 0) pa_nil)) pe_int (nomark _)) (pe_and (pe_cmpR op_eq (pe_ix ix_str (pv 0) pe_int (fun _ _ => rfl)) pe_str (nomark _)) (pe_one (pe_call (G_stands_in_texts base) (hr.mono (by decide)) (by rfl) m_stands_in_texts k_stands_in_texts b_stands_in_texts .nil pass0 (pa_cons (pe_ix ix_str (pv 0) pe_int (fun _ _ => rfl)) pa_nil)))))))), ?_⟩
    refine ⟨_, rfl, _, _, _, _, _, rfl, den.ty, rfl, kit_str d, _, rfl, ?_⟩
    cases d with
    | str z =>
      have ex := den.to_str
      subst ex
      have hz := short_line sh
      have ev : isSignD (.str z) = (z.cps.size == 2 && z.cps[0]? == some 39 && good (z.cps.getD 1 0)) := rfl
      refine iteT ?_
      refine ⟨_, rfl, z, rfl, hz, rfl, _, rfl, ?_⟩
      refine and_read (g := decide (z.cps.getD 0 0 = 39) && good (z.cps.getD 1 0)) (fun h2 R hR => ?_) ?_
      · have hs : z.cps.size = 2 := by
          have e := V.int.inj (of_decide_eq_true h2)
          rw [size_len] at e
          omega
        have g0 : z.cps.toList[0]? = some (z.cps.getD 0 0) := by
          rw [Array.getElem?_toList]; simp [hs]
        have g1 : z.cps.toList[1]? = some (z.cps.getD 1 0) := by
          rw [Array.getElem?_toList]; simp [hs]
        refine ⟨_, rfl, z, 0, _, rfl, rfl, hz, atI_nat (j := 0) g0, rfl, _, rfl, ?_⟩
        rw [first39]
        exact and_read (g := good (z.cps.getD 1 0)) (fun _ R hR => ⟨_, rfl, z, 1, _, rfl, rfl, hz, atI_nat (j := 1) g1, _, rfl, hR⟩) hR
      · have e2 : (decide (V.int (z.length : Int) = V.int 2) && (decide (z.cps.getD 0 0 = 39) && good (z.cps.getD 1 0))) = isSignD (.str z) := by
          rw [ev, size_len, Bool.and_assoc]
          by_cases h2 : z.cps.size = 2
          · have g0 : z.cps[0]? = some (z.cps.getD 0 0) := by simp [h2]
            have e4 : (some (z.cps.getD 0 0) == some 39) = decide (z.cps.getD 0 0 = 39) := by
              rw [Bool.eq_iff_iff]; simp
            rw [g0, e4]
            congr 1
            rw [h2]; decide
          · rw [decide_eq_false (fun e => h2 (by have := V.int.inj e; omega)), beq_eq_false_iff_ne.mpr h2]
            rfl
        rw [e2]
        exact q
    | _ => exact iteF q
theorem sc_is_name : FnScope ["thing"] ["thing"] (defScope s_is_name) := ⟨rfl, rfl, rfl, by decide +kernel, rfl, by decide +kernel, by decide +kernel⟩
theorem ok_is_name {f : Addr} {fd : FuncData} (F : Fun K "is_name" "is_name" s_is_name f fd) (T : Txt K mg C) : FnOk P w K mg base CX0 1 f fd ["thing"] (spIs isNameD) := by
  obtain ⟨t_MOST_LETTERS, g_MOST_LETTERS⟩ := T.g_MOST_LETTERS
  refine F.ok sc_is_name (fun vs H Q E h => ?_) (fun cdv A outer s H vs Q E hr h => ?_)
  · obtain ⟨x, d, rfl, _⟩ := h
    rfl
  · obtain ⟨x, d, rfl, den, sh, hp, q⟩ := h
    refine ⟨_, (pss_cons (ps_if (pt_not (pt_val (pe_callB (call_isiK K rfl) (by rfl) T.z_isinstance PyProof.Rows.Boot.«isinstance» (pa_cons (pv 0) (pa_cons (pe_bltn (v := .ty "str") (by rfl) T.z_str PyProof.Rows.Boot.«str» rfl) pa_nil))))) (pss_one (ps_ret pe_bl)) pss_nil)
      (pss_one (ps_ret (pe_and (pe_chain op_le op_le pe_int (pe_callB call_len_str (by rfl) T.z_len PyProof.Rows.Boot.«len» (pa_cons (pv 0) pa_nil)) (pe_glob (v := .int 8) (by rfl) g_MOST_LETTERS ⟨_, rfl⟩)) (pe_one (pe_pure (pe_callB (call_allK K rfl rfl) (by rfl) T.z_all PyProof.Rows.Boot.«all» (pa_cons (pe_comp (N := ["letter"]) (ρ := [none]) (cl := []) rfl (CompScope.plain rfl (by decide +kernel) (by decide +kernel) rfl (by simp)) (pi_str (pv 0)) (fun _ _ _ _ _ => (pg_name (i := 0) nd_P1b_letter rfl (Or.inl rfl) (.inr rfl))) (fun _ _ _ _ _ => pts_nil) (fun _ _ _ _ _ => (pe_chain op_le_str op_le_str pe_str (pv 0) pe_str))) pa_nil)))))))), ?_⟩
    refine ⟨_, rfl, _, _, _, _, _, rfl, den.ty, rfl, kit_str d, _, rfl, ?_⟩
    cases d with
    | str z =>
      have ex := den.to_str
      subst ex
      have hz := short_line sh
      have ev : isNameD (.str z) = (decide (1 ≤ z.cps.size) && decide (z.cps.size ≤ 8) && z.cps.toList.all letter) := rfl
      refine iteF ?_
      refine ⟨_, rfl, z, rfl, hz, _, _, rfl, rfl, _, rfl, ?_⟩
      refine ite2 (fun h1 => ?_) fun h1 => ?_
      · refine ⟨_, _, rfl, rfl, _, rfl, ?_⟩
        have h1' : 1 ≤ z.cps.size := by have := of_decide_eq_true h1; rw [size_len] at this; omega
        refine ite2 (fun h2 => ?_) fun h2 => ?_
        · have h2' : z.cps.size ≤ 8 := by have := of_decide_eq_true h2; rw [size_len] at this; omega
          refine ⟨hp, _, rfl, z, rfl, fun l hl => ?_⟩
          refine comp_str (τ := pick [none] _) (fun c => .bl (letter c)) hl Nat.zero_lt_one hz (fun τ' c H' R hτ _ hR => ?_) ?_
          · refine ⟨_, hτ, _, _, rfl, rfl, _, rfl, ?_⟩
            rw [le_A]
            refine ite2 (fun h3 => ?_) fun h3 => ?_
            · refine ⟨_, _, rfl, rfl, ?_⟩
              rw [le_Z]
              have e5 : letter c = decide (c ≤ 90) := by unfold letter; rw [h3]; rfl
              rw [e5] at hR
              exact hR
            · have e5 : letter c = false := by
                unfold letter
                cases hh : decide (65 ≤ c) with
                | false => rfl
                | true => exact absurd hh h3
              rw [e5] at hR
              exact hR
          · refine ⟨l, z.cps.toList.map letter, rfl, .inl (.inl ?_), fun b o eb => ?_, ?_⟩
            · rw [upd_same, map_bl]
            · rw [upd_ne (ne_of_none eb hl)]; exact eb
            · rw [all_map_id]
              rw [ev, decide_eq_true h1', decide_eq_true h2'] at q
              simpa using q
        · have h2' : ¬ z.cps.size ≤ 8 := fun z' => h2 (decide_eq_true (by rw [size_len]; omega))
          rw [ev, decide_eq_false h2'] at q
          simpa using q
      · have h1' : ¬ 1 ≤ z.cps.size := fun z' => h1 (decide_eq_true (by rw [size_len]; omega))
        refine ⟨_, rfl, iteF ?_⟩
        rw [ev, decide_eq_false h1'] at q
        simpa using q
    | _ => exact iteT q
theorem sc_is_part : FnScope ["thing"] ["thing"] (defScope s_is_part) := ⟨rfl, rfl, rfl, by decide +kernel, rfl, by decide +kernel, by decide +kernel⟩
theorem ok_is_part {f : Addr} {fd : FuncData} (F : Fun K "is_part" "is_part" s_is_part f fd) (T : Txt K mg C) (U_is_sign : Used P w K mg CX0 2 "is_sign" ["thing"] (spIs isSignD)) (U_is_name : Used P w K mg CX0 1 "is_name" ["thing"] (spIs isNameD)) : FnOk P w K mg base CX0 3 f fd ["thing"] (spIs isPartD) := by
  obtain ⟨f_is_sign, fd_is_sign, G_is_sign, m_is_sign, k_is_sign, b_is_sign⟩ := U_is_sign.ok
  obtain ⟨f_is_name, fd_is_name, G_is_name, m_is_name, k_is_name, b_is_name⟩ := U_is_name.ok
  refine F.ok sc_is_part (fun vs H Q E h => ?_) (fun cdv A outer s H vs Q E hr h => ?_)
  · obtain ⟨x, d, rfl, _⟩ := h
    rfl
  · obtain ⟨x, d, rfl, den, sh, hp, q⟩ := h
    refine ⟨_, (pss_one (ps_ret (pe_or (pe_call (G_is_sign base) (hr.mono (by decide)) (by rfl) m_is_sign k_is_sign b_is_sign .nil pass0 (pa_cons (pv 0) pa_nil)) (pe_one (pe_call (G_is_name base) (hr.mono (by decide)) (by rfl) m_is_name k_is_name b_is_name .nil pass0 (pa_cons (pv 0) pa_nil)))))), ?_⟩
    refine ⟨_, rfl, x, d, rfl, den, sh, hp, _, rfl, ?_⟩
    exact or_read (g := isNameD d) (fun _ R hR => ⟨_, rfl, x, d, rfl, den, sh, hp, hR⟩) q
theorem sc_is_worth : FnScope ["thing"] ["thing"] (defScope s_is_worth) := ⟨rfl, rfl, rfl, by decide +kernel, rfl, by decide +kernel, by decide +kernel⟩
theorem ok_is_worth {f : Addr} {fd : FuncData} (F : Fun K "is_worth" "is_worth" s_is_worth f fd) (T : Txt K mg C) (U_is_whole : Used P w K mg CX0 1 "is_whole" ["thing"] (spIs isWholeD)) : FnOk P w K mg base CX0 2 f fd ["thing"] (spIs isWorthD) := by
  obtain ⟨f_is_whole, fd_is_whole, G_is_whole, m_is_whole, k_is_whole, b_is_whole⟩ := U_is_whole.ok
  refine F.ok sc_is_worth (fun vs H Q E h => ?_) (fun cdv A outer s H vs Q E hr h => ?_)
  · obtain ⟨x, d, rfl, _⟩ := h
    rfl
  · obtain ⟨x, d, rfl, den, sh, hp, q⟩ := h
    refine ⟨_, (pss_one (ps_ret (pe_and (pe_call (G_is_whole base) (hr.mono (by decide)) (by rfl) m_is_whole k_is_whole b_is_whole .nil pass0 (pa_cons (pv 0) pa_nil)) (pe_one (pe_chain op_le op_le pe_int (pv 0) (pe_op op_pow pe_int pe_int)))))), ?_⟩
    refine ⟨_, rfl, x, d, rfl, den, sh, hp, _, rfl, ?_⟩
    cases d with
    | int i =>
      have ex := den.to_int
      subst ex
      have ev : isWorthD (.int i) = (decide (0 ≤ i) && decide (i ≤ 10 ^ 60)) := rfl
      refine iteT ?_
      refine ⟨_, rfl, _, _, rfl, rfl, _, rfl, ?_⟩
      refine ite2 (fun h1 => ?_) fun h1 => ?_
      · refine ⟨_, _, rfl, rfl, ⟨by decide, by decide, by decide⟩, _, _, rfl, rfl, ?_⟩
        rw [ev, h1] at q
        exact q
      · have h1' : decide (0 ≤ i) = false := by
          cases hh : decide (0 ≤ i) with
          | false => rfl
          | true => exact absurd hh h1
        rw [ev, h1'] at q
        exact q
    | _ => exact iteF q
theorem sc_are_parts : FnScope ["thing"] ["thing"] (defScope s_are_parts) := ⟨rfl, rfl, rfl, by decide +kernel, rfl, by decide +kernel, by decide +kernel⟩
theorem ok_are_parts {f : Addr} {fd : FuncData} (F : Fun K "are_parts" "are_parts" s_are_parts f fd) (T : Txt K mg C) (U_is_part : Used P w K mg CX0 3 "is_part" ["thing"] (spIs isPartD)) : FnOk P w K mg base CX0 4 f fd ["thing"] (spIs arePartsD) := by
  obtain ⟨f_is_part, fd_is_part, G_is_part, m_is_part, k_is_part, b_is_part⟩ := U_is_part.ok
  obtain ⟨t_MOST_PARTS, g_MOST_PARTS⟩ := T.g_MOST_PARTS
  refine F.ok sc_are_parts (fun vs H Q E h => ?_) (fun cdv A outer s H vs Q E hr h => ?_)
  · obtain ⟨x, d, rfl, _⟩ := h
    rfl
  · obtain ⟨x, d, rfl, den, sh, hp, q⟩ := h
    refine ⟨_, (pss_cons (ps_if (pt_not (pt_val (pe_callB (call_isiK K rfl) (by rfl) T.z_isinstance PyProof.Rows.Boot.«isinstance» (pa_cons (pv 0) (pa_cons (pe_bltn (v := .ty "tuple") (by rfl) T.z_tuple PyProof.Rows.Boot.«tuple» rfl) pa_nil))))) (pss_one (ps_ret pe_bl)) pss_nil)
      (pss_one (ps_ret (pe_and (pe_cmpR op_le (pe_callB (call_len_seqK K rfl) (by rfl) T.z_len PyProof.Rows.Boot.«len» (pa_cons (pv 0) pa_nil)) (pe_glob (v := .int 6) (by rfl) g_MOST_PARTS ⟨_, rfl⟩) (nomark _)) (pe_one (pe_pure (pe_callB (call_allK K rfl rfl) (by rfl) T.z_all PyProof.Rows.Boot.«all» (pa_cons (pe_comp (N := ["part"]) (ρ := [none]) (cl := []) rfl (CompScope.plain rfl (by decide +kernel) (by decide +kernel) rfl (by simp)) (pi_tupK K rfl (pv 0)) (fun _ _ _ _ _ => (pg_name (i := 0) nd_P1b_part rfl (Or.inl rfl) (.inr rfl))) (fun _ _ _ _ _ => pts_nil) (fun _ _ _ _ _ => (pe_call (G_is_part base) (hr.mono (by decide)) (by rfl) m_is_part k_is_part b_is_part .nil pass0 (pa_cons (pv 0) pa_nil)))) pa_nil)))))))), ?_⟩
    refine ⟨_, rfl, _, _, _, _, _, rfl, den.ty, rfl, kit_tuple d, _, rfl, ?_⟩
    cases d with
    | tup ds =>
      obtain ⟨a, xs, rfl, ha, hds⟩ := den.to_tup
      have hl : xs.length = ds.length := hds.len
      refine iteF ?_
      refine ⟨_, rfl, a, xs, rfl, .inr (SqT.of ha), _, _, rfl, rfl, _, rfl, ?_⟩
      have shS : shortS ds = true := by unfold D.short at sh; exact sh
      have e1 : decide ((xs.length : Int) ≤ 6) = decide (ds.length ≤ 6) := by rw [hl]; congr 1; exact propext ⟨fun h => by omega, fun h => by omega⟩
      rw [e1]
      refine and_read (g := ds.all isPartD) (fun h1 R hR => ?_) q
      have h1' : ds.length ≤ 6 := of_decide_eq_true h1
      refine ⟨hp, _, rfl, a, rfl, ⟨xs, SqT.of ha⟩, fun l hln => ?_⟩
      refine comp_items (n := xs.length) 0 (fun k y _ => ∃ d, ds[k]? = some d ∧ y = .bl (isPartD d)) (gives_tup (SqT.of ha)) (fun _ _ _ _ _ h => h) hp hln Nat.zero_lt_one (line1000 (by omega)) (fun τ' => 0 < τ'.length) Nat.zero_lt_one (fun τ' v h => by rw [List.length_set]; exact h) ?_ ?_
      · intro τ' k y H' R _ hτ hit hk hs hp' hlne hR
        obtain ⟨d, hd, dn⟩ := hds.get hit
        exact ⟨_, hτ, y, d, rfl, dn.same hs, shortS_mem shS (List.mem_of_getElem? hd), hp', hR _ _ (Same.refl _) hp' ⟨d, hd, rfl⟩⟩
      · intro ys H' hy hP hs hp' hl'
        have e2 : ys = (ds.map isPartD).map V.bl := bls_of (by rw [hy, hl]) hP
        refine ⟨l, ds.map isPartD, rfl, .inl (.inl (by rw [hl', e2])), hs, ?_⟩
        rw [all_map_id]
        exact hR
    | _ => exact iteT q
theorem sc_is_rule : FnScope ["thing"] ["thing"] (defScope s_is_rule) := ⟨rfl, rfl, rfl, by decide +kernel, rfl, by decide +kernel, by decide +kernel⟩
theorem ok_is_rule {f : Addr} {fd : FuncData} (F : Fun K "is_rule" "is_rule" s_is_rule f fd) (T : Txt K mg C) (U_is_name : Used P w K mg CX0 1 "is_name" ["thing"] (spIs isNameD)) (U_are_parts : Used P w K mg CX0 4 "are_parts" ["thing"] (spIs arePartsD)) (U_is_worth : Used P w K mg CX0 2 "is_worth" ["thing"] (spIs isWorthD)) : FnOk P w K mg base CX0 5 f fd ["thing"] (spIs isRuleD) := by
  obtain ⟨f_is_name, fd_is_name, G_is_name, m_is_name, k_is_name, b_is_name⟩ := U_is_name.ok
  obtain ⟨f_are_parts, fd_are_parts, G_are_parts, m_are_parts, k_are_parts, b_are_parts⟩ := U_are_parts.ok
  obtain ⟨f_is_worth, fd_is_worth, G_is_worth, m_is_worth, k_is_worth, b_is_worth⟩ := U_is_worth.ok
  refine F.ok sc_is_rule (fun vs H Q E h => ?_) (fun cdv A outer s H vs Q E hr h => ?_)
  · obtain ⟨x, d, rfl, _⟩ := h
    rfl
  · obtain ⟨x, d, rfl, den, sh, hp, q⟩ := h
    refine ⟨_, (pss_cons (ps_if (PW.pt (pw_or (pt_not (pt_val (pe_callB (call_isiK K rfl) (by rfl) T.z_isinstance PyProof.Rows.Boot.«isinstance» (pa_cons (pv 0) (pa_cons (pe_bltn (v := .ty "tuple") (by rfl) T.z_tuple PyProof.Rows.Boot.«tuple» rfl) pa_nil))))) (pw_or1 (pt_cmpR op_ne (pe_callB (call_len_seqK K rfl) (by rfl) T.z_len PyProof.Rows.Boot.«len» (pa_cons (pv 0) pa_nil)) pe_int (nomark _))))) (pss_one (ps_ret pe_bl)) pss_nil)
      (pss_one (ps_ret (pe_and (pe_call (G_is_name base) (hr.mono (by decide)) (by rfl) m_is_name k_is_name b_is_name .nil pass0 (pa_cons (pe_ix (ix_tupK K rfl) (pv 0) pe_int (fun _ _ => rfl)) pa_nil)) (pe_and (pe_call (G_are_parts base) (hr.mono (by decide)) (by rfl) m_are_parts k_are_parts b_are_parts .nil pass0 (pa_cons (pe_ix (ix_tupK K rfl) (pv 0) pe_int (fun _ _ => rfl)) pa_nil)) (pe_one (pe_call (G_is_worth base) (hr.mono (by decide)) (by rfl) m_is_worth k_is_worth b_is_worth .nil pass0 (pa_cons (pe_ix (ix_tupK K rfl) (pv 0) pe_int (fun _ _ => rfl)) pa_nil)))))))), ?_⟩
    refine ⟨_, rfl, _, _, _, _, _, rfl, den.ty, rfl, kit_tuple d, _, rfl, ?_⟩
    cases d with
    | tup ds =>
      obtain ⟨a, xs, rfl, ha, hds⟩ := den.to_tup
      have hl : xs.length = ds.length := hds.len
      refine iteF ?_
      refine ⟨_, rfl, a, xs, rfl, .inr (SqT.of ha), rfl, _, rfl, ?_⟩
      have shS : shortS ds = true := by unfold D.short at sh; exact sh
      by_cases h3 : ds.length = 3
      · match ds, h3, xs, hl, hds, ha, q, shS with
        | [d0, d1, d2], _, [x0, x1, x2], _, hds, ha, q, shS =>
          have n0 := (hds.get (i := 0) (v := x0) rfl)
          have n1 := (hds.get (i := 1) (v := x1) rfl)
          have n2 := (hds.get (i := 2) (v := x2) rfl)
          obtain ⟨_, e0, n0⟩ := n0
          obtain ⟨_, e1, n1⟩ := n1
          obtain ⟨_, e2, n2⟩ := n2
          cases e0
          cases e1
          cases e2
          have sq : SqT K H a [x0, x1, x2] := SqT.of ha
          refine iteF ?_
          refine ⟨_, rfl, a, _, 0, x0, rfl, rfl, sq, rfl, x0, d0, rfl, n0, shortS_mem shS (by simp), hp, _, rfl, ?_⟩
          refine and_read (g := arePartsD d1 && isWorthD d2) (fun _ R hR => ?_) q
          refine ⟨_, rfl, a, _, 1, x1, rfl, rfl, sq, rfl, x1, d1, rfl, n1, shortS_mem shS (by simp), hp, _, rfl, ?_⟩
          exact and_read (g := isWorthD d2) (fun _ R hR => ⟨_, rfl, a, _, 2, x2, rfl, rfl, sq, rfl, x2, d2, rfl, n2, shortS_mem shS (by simp), hp, hR⟩) hR
      · have e1 : (!decide (V.int (xs.length : Int) = V.int 3)) = true := by
          rw [decide_eq_false]
          · rfl
          · intro e
            have := V.int.inj e
            omega
        rw [e1]
        refine iteT ?_
        have e2 : isRuleD (.tup ds) = false := by
          match ds, h3 with
          | [], _ => rfl
          | [_], _ => rfl
          | [_, _], _ => rfl
          | [_, _, _], h => exact absurd rfl h
          | _ :: _ :: _ :: _ :: _, _ => rfl
        rw [e2] at q
        exact q
    | _ => exact iteT q
end
end FR


set_option linter.all false
set_option maxRecDepth 100000
set_option maxHeartbeats 4000000
namespace FR
open PySem L2
theorem nd_P1c_rule : (["rule"] : List Str).Nodup := by decide +kernel
section
variable {P : Program} {w : World} {K : PySem.W.Frag} {mg : Str → Option Value} {base : Heap} {C : Adr}
theorem sc_is_grammar : FnScope ["thing"] ["thing"] (defScope s_is_grammar) := ⟨rfl, rfl, rfl, by decide +kernel, rfl, by decide +kernel, by decide +kernel⟩
theorem ok_is_grammar {f : Addr} {fd : FuncData} (F : Fun K "is_grammar" "is_grammar" s_is_grammar f fd) (T : Txt K mg C) (U_is_rule : Used P w K mg CX0 5 "is_rule" ["thing"] (spIs isRuleD)) : FnOk P w K mg base CX0 6 f fd ["thing"] (spIs isGramD) := by
  obtain ⟨f_is_rule, fd_is_rule, G_is_rule, m_is_rule, k_is_rule, b_is_rule⟩ := U_is_rule.ok
  obtain ⟨t_MOST_RULES, g_MOST_RULES⟩ := T.g_MOST_RULES
  refine F.ok sc_is_grammar (fun vs H Q E h => ?_) (fun cdv A outer s H vs Q E hr h => ?_)
  · obtain ⟨x, d, rfl, _⟩ := h
    rfl
  · obtain ⟨x, d, rfl, den, sh, hp, q⟩ := h
    refine ⟨_, (pss_cons (ps_if (pt_not (pt_val (pe_callB (call_isiK K rfl) (by rfl) T.z_isinstance PyProof.Rows.Boot.«isinstance» (pa_cons (pv 0) (pa_cons (pe_bltn (v := .ty "list") (by rfl) T.z_list PyProof.Rows.Boot.«list» rfl) pa_nil))))) (pss_one (ps_ret pe_bl)) pss_nil)
      (pss_one (ps_ret (pe_and (pe_cmpR op_le (pe_callB (call_len_seqK K rfl) (by rfl) T.z_len PyProof.Rows.Boot.«len» (pa_cons (pv 0) pa_nil)) (pe_glob (v := .int 60) (by rfl) g_MOST_RULES ⟨_, rfl⟩) (nomark _)) (pe_one (pe_pure (pe_callB (call_allK K rfl rfl) (by rfl) T.z_all PyProof.Rows.Boot.«all» (pa_cons (pe_comp (N := ["rule"]) (ρ := [none]) (cl := []) rfl (CompScope.plain rfl (by decide +kernel) (by decide +kernel) rfl (by simp)) (pi_listK K rfl (pv 0)) (fun _ _ _ _ _ => (pg_name (i := 0) nd_P1c_rule rfl (Or.inl rfl) (.inr rfl))) (fun _ _ _ _ _ => pts_nil) (fun _ _ _ _ _ => (pe_call (G_is_rule base) (hr.mono (by decide)) (by rfl) m_is_rule k_is_rule b_is_rule .nil pass0 (pa_cons (pv 0) pa_nil)))) pa_nil)))))))), ?_⟩
    refine ⟨_, rfl, _, _, _, _, _, rfl, den.ty, rfl, kit_list d, _, rfl, ?_⟩
    cases d with
    | lst ds =>
      obtain ⟨a, xs, rfl, ha, hds⟩ := den.to_lst
      have hl : xs.length = ds.length := hds.len
      have sq : SqL K H a xs := .inl ha
      refine iteF ?_
      refine ⟨_, rfl, a, xs, rfl, .inl sq, _, _, rfl, rfl, _, rfl, ?_⟩
      have shS : shortS ds = true := by unfold D.short at sh; exact sh
      have e1 : decide ((xs.length : Int) ≤ 60) = decide (ds.length ≤ 60) := by rw [hl]; congr 1; exact propext ⟨fun h => by omega, fun h => by omega⟩
      rw [e1]
      refine and_read (g := ds.all isRuleD) (fun h1 R hR => ?_) q
      have h1' : ds.length ≤ 60 := of_decide_eq_true h1
      refine ⟨hp, _, rfl, a, rfl, ⟨xs, sq⟩, fun l hln => ?_⟩
      refine comp_items (n := xs.length) 0 (fun k y _ => ∃ d, ds[k]? = some d ∧ y = .bl (isRuleD d)) (gives_list sq) (fun _ _ _ _ _ h => h) hp hln Nat.zero_lt_one (line1000 (by omega)) (fun τ' => 0 < τ'.length) Nat.zero_lt_one (fun τ' v h => by rw [List.length_set]; exact h) ?_ ?_
      · intro τ' k y H' R _ hτ hit hk hs hp' hlne hR
        obtain ⟨d, hd, dn⟩ := hds.get hit
        exact ⟨_, hτ, y, d, rfl, dn.same hs, shortS_mem shS (List.mem_of_getElem? hd), hp', hR _ _ (Same.refl _) hp' ⟨d, hd, rfl⟩⟩
      · intro ys H' hy hP hs hp' hl'
        have e2 : ys = (ds.map isRuleD).map V.bl := bls_of (by rw [hy, hl]) hP
        refine ⟨l, ds.map isRuleD, rfl, .inl (.inl (by rw [hl', e2])), hs, ?_⟩
        rw [all_map_id]
        exact hR
    | _ => exact iteT q
theorem sc_checked : FnScope ["thing"] ["thing"] (defScope s_checked) := ⟨rfl, rfl, rfl, by decide +kernel, rfl, by decide +kernel, by decide +kernel⟩
theorem ok_checked {f : Addr} {fd : FuncData} (F : Fun K "checked" "checked" s_checked f fd) (T : Txt K mg C) (U_is_grammar : Used P w K mg CX0 6 "is_grammar" ["thing"] (spIs isGramD)) : FnOk P w K mg base (CXo P w) 7 f fd ["thing"] (spChecked C.NoGrammar) := by
  obtain ⟨f_is_grammar, fd_is_grammar, G_is_grammar, m_is_grammar, k_is_grammar, b_is_grammar⟩ := U_is_grammar.ok
  refine F.okX sc_checked (fun vs H Q E h => ?_) (fun cdv A outer s H vs Q E hr h => ?_)
  · obtain ⟨x, d, rfl, _⟩ := h
    rfl
  · obtain ⟨x, d, rfl, den, sh, hp, q1, q2⟩ := h
    refine ⟨_, (pss_cons (ps_if (pt_not (pt_val (pe_call (G_is_grammar base) (hr.mono (by decide)) (by rfl) m_is_grammar k_is_grammar b_is_grammar .nil pass0 (pa_cons (pv 0) pa_nil)))) (pss_one (ps_raise sink_def T.x_NoGrammar rfl (by rfl) T.n_NoGrammar (pa_cons pe_str pa_nil))) pss_nil)
      (pss_one (ps_ret (pe_callTy (call_list_ofK K rfl) (by rfl) T.z_list PyProof.Rows.Boot.«list» (pa_cons (pv 0) pa_nil))))), ?_⟩
    refine ⟨_, rfl, x, d, rfl, den, sh, hp, _, rfl, ?_⟩
    refine ite2 (fun hi => ?_) fun hi => ?_
    · exact ⟨line1000 (by decide), q2 (bool_false hi)⟩
    · have e := bool_true hi
      obtain ⟨g, rfl, hg⟩ := gram_of e
      obtain ⟨a, xs, rfl, ha, hds⟩ := den_gram den
      exact ⟨_, rfl, a, xs, rfl, .inl (.inl ha), fun l hl => q1 e l xs _ rfl hds hl⟩
end
end FR


set_option linter.all false
set_option maxRecDepth 100000
set_option maxHeartbeats 4000000
namespace FR
open PySem L2
abbrev s_is_text : Stmt := top 15
abbrev s_checked_text : Stmt := top 16
theorem nd_P1t_sign : (["sign"] : List Str).Nodup := by decide +kernel
section
variable {P : Program} {w : World} {K : PySem.W.Frag} {mg : Str → Option Value} {base : Heap} {C : Adr}
theorem sc_is_text : FnScope ["thing"] ["thing"] (defScope s_is_text) := ⟨rfl, rfl, rfl, by decide +kernel, rfl, by decide +kernel, by decide +kernel⟩
theorem ok_is_text {f : Addr} {fd : FuncData} (F : Fun K "is_text" "is_text" s_is_text f fd) (T : Txt K mg C) (U_stands_in_texts : Used P w K mg CX0 1 "stands_in_texts" ["sign"] (spStands)) : FnOk P w K mg base CX0 2 f fd ["thing"] (spIs isTextD) := by
  obtain ⟨f_stands_in_texts, fd_stands_in_texts, G_stands_in_texts, m_stands_in_texts, k_stands_in_texts, b_stands_in_texts⟩ := U_stands_in_texts.ok
  obtain ⟨t_MOST_SIGNS, g_MOST_SIGNS⟩ := T.g_MOST_SIGNS
  refine F.ok sc_is_text (fun vs H Q E h => ?_) (fun cdv A outer s H vs Q E hr h => ?_)
  · obtain ⟨x, d, rfl, _⟩ := h
    rfl
  · obtain ⟨x, d, rfl, den, sh, hp, q⟩ := h
    refine ⟨_, (pss_cons (ps_if (pt_not (pt_val (pe_callB (call_isiK K rfl) (by rfl) T.z_isinstance PyProof.Rows.Boot.«isinstance» (pa_cons (pv 0) (pa_cons (pe_bltn (v := .ty "str") (by rfl) T.z_str PyProof.Rows.Boot.«str» rfl) pa_nil))))) (pss_one (ps_ret pe_bl)) pss_nil)
      (pss_one (ps_ret (pe_and (pe_cmpR op_le (pe_callB call_len_str (by rfl) T.z_len PyProof.Rows.Boot.«len» (pa_cons (pv 0) pa_nil)) (pe_glob (v := .int 60) (by rfl) g_MOST_SIGNS ⟨_, rfl⟩) (nomark _)) (pe_one (pe_pure (pe_callB (call_allK K rfl rfl) (by rfl) T.z_all PyProof.Rows.Boot.«all» (pa_cons (pe_comp (N := ["sign"]) (ρ := [none]) (cl := []) rfl (CompScope.plain rfl (by decide +kernel) (by decide +kernel) rfl (by simp)) (pi_str (pv 0)) (fun _ _ _ _ _ => (pg_name (i := 0) nd_P1t_sign rfl (Or.inl rfl) (.inr rfl))) (fun _ _ _ _ _ => pts_nil) (fun _ _ _ _ _ => (pe_call (G_stands_in_texts base) (hr.mono (by decide)) (by rfl) m_stands_in_texts k_stands_in_texts b_stands_in_texts .nil pass0 (pa_cons (pv 0) pa_nil)))) pa_nil)))))))), ?_⟩
    refine ⟨_, rfl, _, _, _, _, _, rfl, den.ty, rfl, kit_str d, _, rfl, ?_⟩
    cases d with
    | str z =>
      have ex := den.to_str
      subst ex
      have hz := short_line sh
      have ev : isTextD (.str z) = (decide (z.cps.size ≤ 60) && z.cps.toList.all good) := rfl
      refine iteF ?_
      refine ⟨_, rfl, z, rfl, hz, _, _, rfl, rfl, _, rfl, ?_⟩
      have e1 : decide ((z.length : Int) ≤ 60) = decide (z.cps.size ≤ 60) := by
        rw [size_len]; congr 1; exact propext ⟨fun h => by omega, fun h => by omega⟩
      rw [e1]
      refine and_read (g := z.cps.toList.all good) (fun h1 R hR => ?_) (by rw [ev] at q; exact q)
      refine ⟨hp, _, rfl, z, rfl, fun l hl => ?_⟩
      refine comp_str (τ := pick [none] _) (fun c => .bl (good c)) hl Nat.zero_lt_one hz (fun τ' c H' R hτ _ hR => ?_) ?_
      · exact ⟨_, hτ, c, rfl, hR⟩
      · refine ⟨l, z.cps.toList.map good, rfl, .inl (.inl ?_), fun b o eb => ?_, ?_⟩
        · rw [upd_same, map_bl]
        · rw [upd_ne (ne_of_none eb hl)]; exact eb
        · rw [all_map_id]
          exact hR
    | _ => exact iteT q
theorem sc_checked_text : FnScope ["thing"] ["thing"] (defScope s_checked_text) := ⟨rfl, rfl, rfl, by decide +kernel, rfl, by decide +kernel, by decide +kernel⟩
theorem ok_checked_text {f : Addr} {fd : FuncData} (F : Fun K "checked_text" "checked_text" s_checked_text f fd) (T : Txt K mg C) (U_is_text : Used P w K mg CX0 2 "is_text" ["thing"] (spIs isTextD)) : FnOk P w K mg base (CXo P w) 3 f fd ["thing"] (spCheckedT C.NoText) := by
  obtain ⟨f_is_text, fd_is_text, G_is_text, m_is_text, k_is_text, b_is_text⟩ := U_is_text.ok
  refine F.okX sc_checked_text (fun vs H Q E h => ?_) (fun cdv A outer s H vs Q E hr h => ?_)
  · obtain ⟨x, d, rfl, _⟩ := h
    rfl
  · obtain ⟨x, d, rfl, den, sh, hp, q1, q2⟩ := h
    refine ⟨_, (pss_cons (ps_if (pt_not (pt_val (pe_call (G_is_text base) (hr.mono (by decide)) (by rfl) m_is_text k_is_text b_is_text .nil pass0 (pa_cons (pv 0) pa_nil)))) (pss_one (ps_raise sink_def T.x_NoText rfl (by rfl) T.n_NoText (pa_cons pe_str pa_nil))) pss_nil)
      (pss_one (ps_ret (pv 0)))), ?_⟩
    refine ⟨_, rfl, x, d, rfl, den, sh, hp, _, rfl, ?_⟩
    refine ite2 (fun hi => ?_) fun hi => ?_
    · exact ⟨line1000 (by decide), q2 (bool_false hi)⟩
    · have e := bool_true hi
      cases d with
      | str z =>
        have ex := den.to_str
        subst ex
        exact ⟨_, rfl, q1 z rfl e⟩
      | _ => cases e
end
end FR


set_option linter.all false
set_option maxRecDepth 100000
set_option maxHeartbeats 4000000
namespace FR
open PySem L2
abbrev s_Growth___init__ : Stmt := inClass (top 26) 0
abbrev s_Growth_stand : Stmt := inClass (top 26) 1
abbrev s_Growth_stand_higher : Stmt := inClass (top 26) 2
abbrev s_Growth_meet_part : Stmt := inClass (top 26) 3
abbrev s_Growth_meet_beginning : Stmt := inClass (top 26) 4
abbrev s_Growth_meet : Stmt := inClass (top 26) 5
abbrev s_Growth_grow : Stmt := inClass (top 26) 6
abbrev s_standing : Stmt := top 27

section
variable {P : Program} {w : World} {K : PySem.W.Frag} {mg : Str → Option Value} {base : Heap} {C : Adr}
theorem sc_Growth_stand : FnScope ["self", "node"] ["self", "node"] (defScope s_Growth_stand) := ⟨rfl, rfl, rfl, by decide +kernel, rfl, by decide +kernel, by decide +kernel⟩
theorem ok_Growth_stand {f : Addr} {fd : FuncData} (F : Fun K "stand" "Growth.stand" s_Growth_stand f fd) (T : Txt K mg C) : FnOk P w K mg base CX0 1 f fd ["self", "node"] (spStand C.Growth) := by
  refine F.ok sc_Growth_stand (fun vs H Q E h => ?_) (fun cdv A outer s H vs Q E hr h => ?_)
  · obtain ⟨H0, x, l, a1, a2, a3, a4, a5, t, own, hs, fresh, higher, h, B, E, N, y, rfl, _⟩ := h
    rfl
  · obtain ⟨H0, x, l, a1, a2, a3, a4, a5, t, own, hs, fresh, higher, hh, B, E, N, y, rfl, g, ht, hy, hl1, hl2, q⟩ := h
    have hu := hu_of hr
    refine ⟨_, (pss_cons (ps_dput hu (pe_fldK K rfl (pv 0) rfl) (pv 1) (pe_fldK K rfl (pv 0) rfl) rfl)
      (pss_one (ps_expr (pe_bmK K rfl PySem.F.plainAttrs_list PySem.F.slot_list_append PySem.F.type_list_append mt_append (pe_fldK K rfl (pv 0) rfl) (pa_cons (pv 1) pa_nil))))), ?_⟩
    obtain ⟨dx, hx⟩ := g.x_
    refine ⟨_, rfl, x, C.Growth, dx, _, _, rfl, hx, T.cl_Growth, T.na_Growth_height, rfl, _, rfl, x, C.Growth, dx, _, _, rfl, hx, T.cl_Growth, T.na_Growth_heights, rfl, _, rfl, a1, _, rfl, DPut.t g.h1 ht (by unfold hsD; rw [List.length_map, sizeLine_eq]; omega), ?_⟩
    have ep : putK (hsD hs) (keyN y) (nV hh) = hsD (hs ++ [(y, hh)]) := put_hs hh hy
    rw [ep]
    have g1 := g.set1 (hs ++ [(y, hh)])
    have st1 : ∀ b o, b ≠ a1 → H b = some o → upd H a1 (.dT (hsD (hs ++ [(y, hh)]))) b = some o := fun b o hb e => by rw [upd_ne hb]; exact e
    revert g1 st1
    generalize upd H a1 (.dT (hsD (hs ++ [(y, hh)]))) = H1
    intro g1 st1
    obtain ⟨dx, hx⟩ := g1.x_
    obtain ⟨ts, e2, n2⟩ := g1.h2
    have ht1 := st1 _ _ (ne_of ht g.h1 (fun z => nomatch z)) ht
    refine ⟨_, rfl, x, C.Growth, dx, _, _, rfl, hx, T.cl_Growth, T.na_Growth_fresh, rfl, .inl ⟨rfl, _, SqL.of e2⟩, _, rfl, a2, _, _, rfl, rfl, e2, (by rw [List.length_map, n2.1, sizeLine_eq]; omega), ?_⟩
    have e3 : ts.map V.ref ++ [V.ref t] = (ts ++ [t]).map V.ref := by rw [List.map_append]; rfl
    rw [e3]
    exact q _ (g1.set2 (n2.snoc ht1)) fun b o h1 h2 e => by rw [upd_ne h2]; exact st1 b o h1 e
theorem sc_Growth_stand_higher : FnScope ["self", "node"] ["self", "node"] (defScope s_Growth_stand_higher) := ⟨rfl, rfl, rfl, by decide +kernel, rfl, by decide +kernel, by decide +kernel⟩
theorem ok_Growth_stand_higher {f : Addr} {fd : FuncData} (F : Fun K "stand_higher" "Growth.stand_higher" s_Growth_stand_higher f fd) (T : Txt K mg C) : FnOk P w K mg base CX0 1 f fd ["self", "node"] (spStandUp C.Growth) := by
  refine F.ok sc_Growth_stand_higher (fun vs H Q E h => ?_) (fun cdv A outer s H vs Q E hr h => ?_)
  · obtain ⟨H0, x, l, a1, a2, a3, a4, a5, t, own, hs, fresh, higher, h, B, E, N, y, rfl, _⟩ := h
    rfl
  · obtain ⟨H0, x, l, a1, a2, a3, a4, a5, t, own, hs, fresh, higher, hh, B, E, N, y, rfl, g, ht, hy, hl1, hl2, q⟩ := h
    have hu := hu_of hr
    refine ⟨_, (pss_cons (ps_dput hu (pe_fldK K rfl (pv 0) rfl) (pv 1) (pe_op op_add (pe_fldK K rfl (pv 0) rfl) pe_int) rfl)
      (pss_one (ps_expr (pe_bmK K rfl PySem.F.plainAttrs_list PySem.F.slot_list_append PySem.F.type_list_append mt_append (pe_fldK K rfl (pv 0) rfl) (pa_cons (pv 1) pa_nil))))), ?_⟩
    obtain ⟨dx, hx⟩ := g.x_
    refine ⟨_, rfl, x, C.Growth, dx, _, _, rfl, hx, T.cl_Growth, T.na_Growth_height, rfl, _, _, rfl, rfl, _, rfl, x, C.Growth, dx, _, _, rfl, hx, T.cl_Growth, T.na_Growth_heights, rfl, _, rfl, a1, _, rfl, DPut.t g.h1 ht (by unfold hsD; rw [List.length_map, sizeLine_eq]; omega), ?_⟩
    have ep : putK (hsD hs) (keyN y) ((fun i j : Int => V.int (i + j)) (hh : Int) 1) = hsD (hs ++ [(y, hh + 1)]) := put_hs (hh + 1) hy
    rw [ep]
    have g1 := g.set1 (hs ++ [(y, hh + 1)])
    have st1 : ∀ b o, b ≠ a1 → H b = some o → upd H a1 (.dT (hsD (hs ++ [(y, hh + 1)]))) b = some o := fun b o hb e => by rw [upd_ne hb]; exact e
    revert g1 st1
    generalize upd H a1 (.dT (hsD (hs ++ [(y, hh + 1)]))) = H1
    intro g1 st1
    obtain ⟨dx, hx⟩ := g1.x_
    obtain ⟨ts, e2, n2⟩ := g1.h3
    have ht1 := st1 _ _ (ne_of ht g.h1 (fun z => nomatch z)) ht
    refine ⟨_, rfl, x, C.Growth, dx, _, _, rfl, hx, T.cl_Growth, T.na_Growth_higher, rfl, .inl ⟨rfl, _, SqL.of e2⟩, _, rfl, a3, _, _, rfl, rfl, e2, (by rw [List.length_map, n2.1, sizeLine_eq]; omega), ?_⟩
    have e3 : ts.map V.ref ++ [V.ref t] = (ts ++ [t]).map V.ref := by rw [List.map_append]; rfl
    rw [e3]
    exact q _ (g1.set3 (n2.snoc ht1)) fun b o h1 h2 e => by rw [upd_ne h2]; exact st1 b o h1 e
theorem sc_Growth___init__ : FnScope ["self", "rules"] ["self", "rules"] (defScope s_Growth___init__) := ⟨rfl, rfl, rfl, by decide +kernel, rfl, by decide +kernel, by decide +kernel⟩
theorem ok_Growth___init__ {f : Addr} {fd : FuncData} (F : Fun K "__init__" "Growth.__init__" s_Growth___init__ f fd) (T : Txt K mg C) : FnOk P w K mg base CX0 1 f fd ["self", "rules"] (spGInit C.Growth) := by
  refine F.ok sc_Growth___init__ (fun vs H Q E h => ?_) (fun cdv A outer s H vs Q E hr h => ?_)
  · obtain ⟨H0, x, l, dx, rfl, _⟩ := h
    rfl
  · obtain ⟨H0, x, l, dx, rfl, hx, hx0, s0, hp, q⟩ := h
    refine qex ?_
    refine ⟨_, (qss_cons ⟨(ps_fldK K rfl (pv 0) (pv 1) rfl)⟩
      (qss_cons ⟨(ps_fldK K rfl (pv 0) pe_dnewT rfl)⟩
      (qss_cons ⟨(ps_fldK K rfl (pv 0) pe_int rfl)⟩
      (qss_cons ⟨(ps_fldK K rfl (pv 0) (pe_lst pa_nil) rfl)⟩
      (qss_cons ⟨(ps_fldK K rfl (pv 0) (pe_lst pa_nil) rfl)⟩
      (qss_cons ⟨(ps_fldK K rfl (pv 0) pe_dnewT rfl)⟩
      (qss_one ⟨(ps_fldK K rfl (pv 0) pe_dnewT rfl)⟩))))))), ?_⟩
    have st0 : Same H0 H := s0
    have pl : ∀ b o, H b = some o → plainH o = true := hp
    refine ⟨_, rfl, _, rfl, x, C.Growth, dx, _, rfl, hx, T.cl_Growth, T.na_Growth_rules, (show 0 < 1000 by decide), ?_⟩
    have ef : putF "rules" (.ref l) ([] : List (Str × V)) = ([("rules", .ref l)] : List (Str × V)) := rfl
    rw [ef]
    have st1 : Same H0 (upd H x (.ins C.Growth dx ([("rules", .ref l)] : List (Str × V)))) := st0.put hx0
    have pl1 : ∀ b o, upd H x (.ins C.Growth dx ([("rules", .ref l)] : List (Str × V))) b = some o → plainH o = true := fun b o e => (upd_pl rfl b o e).elim (pl b o) fun z => z
    have hx1 : upd H x (.ins C.Growth dx ([("rules", .ref l)] : List (Str × V))) x = some (.ins C.Growth dx ([("rules", .ref l)] : List (Str × V))) := upd_same
    clear st0 hx pl 
    revert st1 pl1 hx1 
    generalize upd H x (.ins C.Growth dx ([("rules", .ref l)] : List (Str × V))) = G0b
    intro st0 pl hx 
    refine fun a1 ha1 => ?_
    have nxa1 : a1 ≠ x := fun e => by rw [e, hx] at ha1; cases ha1
    have za1 : H0 a1 = none := st0.free ha1
    have st1 : Same H0 (upd G0b a1 (.dT [])) := st0.trans (Same.upd ha1)
    have pl1 : ∀ b o, upd G0b a1 (.dT []) b = some o → b = a1 ∨ plainH o = true := fun b o e => by
      by_cases hb : b = a1
      · exact (.inl hb)
      · rw [upd_ne hb] at e
        have z := pl b o e
        exact .inr z
    have hx1 : upd G0b a1 (.dT []) x = some (.ins C.Growth dx ([("rules", .ref l)] : List (Str × V))) := by rw [upd_ne nxa1.symm]; exact hx
    have va1 : upd G0b a1 (.dT []) a1 = some (.dT []) := upd_same
    clear st0 hx pl  ha1
    revert st1 pl1 hx1 va1
    generalize upd G0b a1 (.dT []) = G1a
    intro st0 pl hx wa1
    refine ⟨_, rfl, x, C.Growth, dx, _, rfl, hx, T.cl_Growth, T.na_Growth_heights, (show 1 < 1000 by decide), ?_⟩
    have ef : putF "heights" (.ref a1) ([("rules", .ref l)] : List (Str × V)) = ([("rules", .ref l), ("heights", .ref a1)] : List (Str × V)) := rfl
    rw [ef]
    have st1 : Same H0 (upd G1a x (.ins C.Growth dx ([("rules", .ref l), ("heights", .ref a1)] : List (Str × V)))) := st0.put hx0
    have pl1 : ∀ b o, upd G1a x (.ins C.Growth dx ([("rules", .ref l), ("heights", .ref a1)] : List (Str × V))) b = some o → b = a1 ∨ plainH o = true := fun b o e => (upd_pl rfl b o e).elim (pl b o) fun z => .inr (z)
    have hx1 : upd G1a x (.ins C.Growth dx ([("rules", .ref l), ("heights", .ref a1)] : List (Str × V))) x = some (.ins C.Growth dx ([("rules", .ref l), ("heights", .ref a1)] : List (Str × V))) := upd_same
    have va1 : upd G1a x (.ins C.Growth dx ([("rules", .ref l), ("heights", .ref a1)] : List (Str × V))) a1 = some (.dT []) := by rw [upd_ne nxa1]; exact wa1
    clear st0 hx pl wa1
    revert st1 pl1 hx1 va1
    generalize upd G1a x (.ins C.Growth dx ([("rules", .ref l), ("heights", .ref a1)] : List (Str × V))) = G1b
    intro st0 pl hx wa1
    refine ⟨_, rfl, x, C.Growth, dx, _, rfl, hx, T.cl_Growth, T.na_Growth_height, (show 2 < 1000 by decide), ?_⟩
    have ef : putF "height" (.int 0) ([("rules", .ref l), ("heights", .ref a1)] : List (Str × V)) = ([("rules", .ref l), ("heights", .ref a1), ("height", nV 0)] : List (Str × V)) := rfl
    rw [ef]
    have st1 : Same H0 (upd G1b x (.ins C.Growth dx ([("rules", .ref l), ("heights", .ref a1), ("height", nV 0)] : List (Str × V)))) := st0.put hx0
    have pl1 : ∀ b o, upd G1b x (.ins C.Growth dx ([("rules", .ref l), ("heights", .ref a1), ("height", nV 0)] : List (Str × V))) b = some o → b = a1 ∨ plainH o = true := fun b o e => (upd_pl rfl b o e).elim (pl b o) fun z => .inr (z)
    have hx1 : upd G1b x (.ins C.Growth dx ([("rules", .ref l), ("heights", .ref a1), ("height", nV 0)] : List (Str × V))) x = some (.ins C.Growth dx ([("rules", .ref l), ("heights", .ref a1), ("height", nV 0)] : List (Str × V))) := upd_same
    have va1 : upd G1b x (.ins C.Growth dx ([("rules", .ref l), ("heights", .ref a1), ("height", nV 0)] : List (Str × V))) a1 = some (.dT []) := by rw [upd_ne nxa1]; exact wa1
    clear st0 hx pl wa1
    revert st1 pl1 hx1 va1
    generalize upd G1b x (.ins C.Growth dx ([("rules", .ref l), ("heights", .ref a1), ("height", nV 0)] : List (Str × V))) = G2b
    intro st0 pl hx wa1
    refine ⟨Nat.zero_le _, fun a2 ha2 => ?_⟩
    have nxa2 : a2 ≠ x := fun e => by rw [e, hx] at ha2; cases ha2
    have za2 : H0 a2 = none := st0.free ha2
    have na1a2 : a1 ≠ a2 := fun e => by rw [← e, wa1] at ha2; cases ha2
    have st1 : Same H0 (upd G2b a2 (.lst [])) := st0.trans (Same.upd ha2)
    have pl1 : ∀ b o, upd G2b a2 (.lst []) b = some o → b = a1 ∨ plainH o = true := fun b o e => (upd_pl rfl b o e).elim (pl b o) fun z => .inr (z)
    have hx1 : upd G2b a2 (.lst []) x = some (.ins C.Growth dx ([("rules", .ref l), ("heights", .ref a1), ("height", nV 0)] : List (Str × V))) := by rw [upd_ne nxa2.symm]; exact hx
    have va1 : upd G2b a2 (.lst []) a1 = some (.dT []) := by rw [upd_ne na1a2]; exact wa1
    have va2 : upd G2b a2 (.lst []) a2 = some (.lst []) := upd_same
    clear st0 hx pl wa1 ha2
    revert st1 pl1 hx1 va1 va2
    generalize upd G2b a2 (.lst []) = G3a
    intro st0 pl hx wa1 wa2
    refine ⟨_, rfl, x, C.Growth, dx, _, rfl, hx, T.cl_Growth, T.na_Growth_fresh, (show 3 < 1000 by decide), ?_⟩
    have ef : putF "fresh" (.ref a2) ([("rules", .ref l), ("heights", .ref a1), ("height", nV 0)] : List (Str × V)) = ([("rules", .ref l), ("heights", .ref a1), ("height", nV 0), ("fresh", .ref a2)] : List (Str × V)) := rfl
    rw [ef]
    have st1 : Same H0 (upd G3a x (.ins C.Growth dx ([("rules", .ref l), ("heights", .ref a1), ("height", nV 0), ("fresh", .ref a2)] : List (Str × V)))) := st0.put hx0
    have pl1 : ∀ b o, upd G3a x (.ins C.Growth dx ([("rules", .ref l), ("heights", .ref a1), ("height", nV 0), ("fresh", .ref a2)] : List (Str × V))) b = some o → b = a1 ∨ plainH o = true := fun b o e => (upd_pl rfl b o e).elim (pl b o) fun z => .inr (z)
    have hx1 : upd G3a x (.ins C.Growth dx ([("rules", .ref l), ("heights", .ref a1), ("height", nV 0), ("fresh", .ref a2)] : List (Str × V))) x = some (.ins C.Growth dx ([("rules", .ref l), ("heights", .ref a1), ("height", nV 0), ("fresh", .ref a2)] : List (Str × V))) := upd_same
    have va1 : upd G3a x (.ins C.Growth dx ([("rules", .ref l), ("heights", .ref a1), ("height", nV 0), ("fresh", .ref a2)] : List (Str × V))) a1 = some (.dT []) := by rw [upd_ne nxa1]; exact wa1
    have va2 : upd G3a x (.ins C.Growth dx ([("rules", .ref l), ("heights", .ref a1), ("height", nV 0), ("fresh", .ref a2)] : List (Str × V))) a2 = some (.lst []) := by rw [upd_ne nxa2]; exact wa2
    clear st0 hx pl wa1 wa2
    revert st1 pl1 hx1 va1 va2
    generalize upd G3a x (.ins C.Growth dx ([("rules", .ref l), ("heights", .ref a1), ("height", nV 0), ("fresh", .ref a2)] : List (Str × V))) = G3b
    intro st0 pl hx wa1 wa2
    refine ⟨Nat.zero_le _, fun a3 ha3 => ?_⟩
    have nxa3 : a3 ≠ x := fun e => by rw [e, hx] at ha3; cases ha3
    have za3 : H0 a3 = none := st0.free ha3
    have na1a3 : a1 ≠ a3 := fun e => by rw [← e, wa1] at ha3; cases ha3
    have na2a3 : a2 ≠ a3 := fun e => by rw [← e, wa2] at ha3; cases ha3
    have st1 : Same H0 (upd G3b a3 (.lst [])) := st0.trans (Same.upd ha3)
    have pl1 : ∀ b o, upd G3b a3 (.lst []) b = some o → b = a1 ∨ plainH o = true := fun b o e => (upd_pl rfl b o e).elim (pl b o) fun z => .inr (z)
    have hx1 : upd G3b a3 (.lst []) x = some (.ins C.Growth dx ([("rules", .ref l), ("heights", .ref a1), ("height", nV 0), ("fresh", .ref a2)] : List (Str × V))) := by rw [upd_ne nxa3.symm]; exact hx
    have va1 : upd G3b a3 (.lst []) a1 = some (.dT []) := by rw [upd_ne na1a3]; exact wa1
    have va2 : upd G3b a3 (.lst []) a2 = some (.lst []) := by rw [upd_ne na2a3]; exact wa2
    have va3 : upd G3b a3 (.lst []) a3 = some (.lst []) := upd_same
    clear st0 hx pl wa1 wa2 ha3
    revert st1 pl1 hx1 va1 va2 va3
    generalize upd G3b a3 (.lst []) = G4a
    intro st0 pl hx wa1 wa2 wa3
    refine ⟨_, rfl, x, C.Growth, dx, _, rfl, hx, T.cl_Growth, T.na_Growth_higher, (show 4 < 1000 by decide), ?_⟩
    have ef : putF "higher" (.ref a3) ([("rules", .ref l), ("heights", .ref a1), ("height", nV 0), ("fresh", .ref a2)] : List (Str × V)) = ([("rules", .ref l), ("heights", .ref a1), ("height", nV 0), ("fresh", .ref a2), ("higher", .ref a3)] : List (Str × V)) := rfl
    rw [ef]
    have st1 : Same H0 (upd G4a x (.ins C.Growth dx ([("rules", .ref l), ("heights", .ref a1), ("height", nV 0), ("fresh", .ref a2), ("higher", .ref a3)] : List (Str × V)))) := st0.put hx0
    have pl1 : ∀ b o, upd G4a x (.ins C.Growth dx ([("rules", .ref l), ("heights", .ref a1), ("height", nV 0), ("fresh", .ref a2), ("higher", .ref a3)] : List (Str × V))) b = some o → b = a1 ∨ plainH o = true := fun b o e => (upd_pl rfl b o e).elim (pl b o) fun z => .inr (z)
    have hx1 : upd G4a x (.ins C.Growth dx ([("rules", .ref l), ("heights", .ref a1), ("height", nV 0), ("fresh", .ref a2), ("higher", .ref a3)] : List (Str × V))) x = some (.ins C.Growth dx ([("rules", .ref l), ("heights", .ref a1), ("height", nV 0), ("fresh", .ref a2), ("higher", .ref a3)] : List (Str × V))) := upd_same
    have va1 : upd G4a x (.ins C.Growth dx ([("rules", .ref l), ("heights", .ref a1), ("height", nV 0), ("fresh", .ref a2), ("higher", .ref a3)] : List (Str × V))) a1 = some (.dT []) := by rw [upd_ne nxa1]; exact wa1
    have va2 : upd G4a x (.ins C.Growth dx ([("rules", .ref l), ("heights", .ref a1), ("height", nV 0), ("fresh", .ref a2), ("higher", .ref a3)] : List (Str × V))) a2 = some (.lst []) := by rw [upd_ne nxa2]; exact wa2
    have va3 : upd G4a x (.ins C.Growth dx ([("rules", .ref l), ("heights", .ref a1), ("height", nV 0), ("fresh", .ref a2), ("higher", .ref a3)] : List (Str × V))) a3 = some (.lst []) := by rw [upd_ne nxa3]; exact wa3
    clear st0 hx pl wa1 wa2 wa3
    revert st1 pl1 hx1 va1 va2 va3
    generalize upd G4a x (.ins C.Growth dx ([("rules", .ref l), ("heights", .ref a1), ("height", nV 0), ("fresh", .ref a2), ("higher", .ref a3)] : List (Str × V))) = G4b
    intro st0 pl hx wa1 wa2 wa3
    refine fun a4 ha4 => ?_
    have nxa4 : a4 ≠ x := fun e => by rw [e, hx] at ha4; cases ha4
    have za4 : H0 a4 = none := st0.free ha4
    have na1a4 : a1 ≠ a4 := fun e => by rw [← e, wa1] at ha4; cases ha4
    have na2a4 : a2 ≠ a4 := fun e => by rw [← e, wa2] at ha4; cases ha4
    have na3a4 : a3 ≠ a4 := fun e => by rw [← e, wa3] at ha4; cases ha4
    have st1 : Same H0 (upd G4b a4 (.dT [])) := st0.trans (Same.upd ha4)
    have pl1 : ∀ b o, upd G4b a4 (.dT []) b = some o → b = a1 ∨ b = a4 ∨ plainH o = true := fun b o e => by
      by_cases hb : b = a4
      · exact .inr ((.inl hb))
      · rw [upd_ne hb] at e
        have z := pl b o e
        rcases z with z | z
        · exact (.inl z)
        · exact .inr ((.inr z))
    have hx1 : upd G4b a4 (.dT []) x = some (.ins C.Growth dx ([("rules", .ref l), ("heights", .ref a1), ("height", nV 0), ("fresh", .ref a2), ("higher", .ref a3)] : List (Str × V))) := by rw [upd_ne nxa4.symm]; exact hx
    have va1 : upd G4b a4 (.dT []) a1 = some (.dT []) := by rw [upd_ne na1a4]; exact wa1
    have va2 : upd G4b a4 (.dT []) a2 = some (.lst []) := by rw [upd_ne na2a4]; exact wa2
    have va3 : upd G4b a4 (.dT []) a3 = some (.lst []) := by rw [upd_ne na3a4]; exact wa3
    have va4 : upd G4b a4 (.dT []) a4 = some (.dT []) := upd_same
    clear st0 hx pl wa1 wa2 wa3 ha4
    revert st1 pl1 hx1 va1 va2 va3 va4
    generalize upd G4b a4 (.dT []) = G5a
    intro st0 pl hx wa1 wa2 wa3 wa4
    refine ⟨_, rfl, x, C.Growth, dx, _, rfl, hx, T.cl_Growth, T.na_Growth_begun, (show 5 < 1000 by decide), ?_⟩
    have ef : putF "begun" (.ref a4) ([("rules", .ref l), ("heights", .ref a1), ("height", nV 0), ("fresh", .ref a2), ("higher", .ref a3)] : List (Str × V)) = ([("rules", .ref l), ("heights", .ref a1), ("height", nV 0), ("fresh", .ref a2), ("higher", .ref a3), ("begun", .ref a4)] : List (Str × V)) := rfl
    rw [ef]
    have st1 : Same H0 (upd G5a x (.ins C.Growth dx ([("rules", .ref l), ("heights", .ref a1), ("height", nV 0), ("fresh", .ref a2), ("higher", .ref a3), ("begun", .ref a4)] : List (Str × V)))) := st0.put hx0
    have pl1 : ∀ b o, upd G5a x (.ins C.Growth dx ([("rules", .ref l), ("heights", .ref a1), ("height", nV 0), ("fresh", .ref a2), ("higher", .ref a3), ("begun", .ref a4)] : List (Str × V))) b = some o → b = a1 ∨ b = a4 ∨ plainH o = true := fun b o e => (upd_pl rfl b o e).elim (pl b o) fun z => .inr (.inr (z))
    have hx1 : upd G5a x (.ins C.Growth dx ([("rules", .ref l), ("heights", .ref a1), ("height", nV 0), ("fresh", .ref a2), ("higher", .ref a3), ("begun", .ref a4)] : List (Str × V))) x = some (.ins C.Growth dx ([("rules", .ref l), ("heights", .ref a1), ("height", nV 0), ("fresh", .ref a2), ("higher", .ref a3), ("begun", .ref a4)] : List (Str × V))) := upd_same
    have va1 : upd G5a x (.ins C.Growth dx ([("rules", .ref l), ("heights", .ref a1), ("height", nV 0), ("fresh", .ref a2), ("higher", .ref a3), ("begun", .ref a4)] : List (Str × V))) a1 = some (.dT []) := by rw [upd_ne nxa1]; exact wa1
    have va2 : upd G5a x (.ins C.Growth dx ([("rules", .ref l), ("heights", .ref a1), ("height", nV 0), ("fresh", .ref a2), ("higher", .ref a3), ("begun", .ref a4)] : List (Str × V))) a2 = some (.lst []) := by rw [upd_ne nxa2]; exact wa2
    have va3 : upd G5a x (.ins C.Growth dx ([("rules", .ref l), ("heights", .ref a1), ("height", nV 0), ("fresh", .ref a2), ("higher", .ref a3), ("begun", .ref a4)] : List (Str × V))) a3 = some (.lst []) := by rw [upd_ne nxa3]; exact wa3
    have va4 : upd G5a x (.ins C.Growth dx ([("rules", .ref l), ("heights", .ref a1), ("height", nV 0), ("fresh", .ref a2), ("higher", .ref a3), ("begun", .ref a4)] : List (Str × V))) a4 = some (.dT []) := by rw [upd_ne nxa4]; exact wa4
    clear st0 hx pl wa1 wa2 wa3 wa4
    revert st1 pl1 hx1 va1 va2 va3 va4
    generalize upd G5a x (.ins C.Growth dx ([("rules", .ref l), ("heights", .ref a1), ("height", nV 0), ("fresh", .ref a2), ("higher", .ref a3), ("begun", .ref a4)] : List (Str × V))) = G5b
    intro st0 pl hx wa1 wa2 wa3 wa4
    refine fun a5 ha5 => ?_
    have nxa5 : a5 ≠ x := fun e => by rw [e, hx] at ha5; cases ha5
    have za5 : H0 a5 = none := st0.free ha5
    have na1a5 : a1 ≠ a5 := fun e => by rw [← e, wa1] at ha5; cases ha5
    have na2a5 : a2 ≠ a5 := fun e => by rw [← e, wa2] at ha5; cases ha5
    have na3a5 : a3 ≠ a5 := fun e => by rw [← e, wa3] at ha5; cases ha5
    have na4a5 : a4 ≠ a5 := fun e => by rw [← e, wa4] at ha5; cases ha5
    have st1 : Same H0 (upd G5b a5 (.dT [])) := st0.trans (Same.upd ha5)
    have pl1 : ∀ b o, upd G5b a5 (.dT []) b = some o → b = a1 ∨ b = a4 ∨ b = a5 ∨ plainH o = true := fun b o e => by
      by_cases hb : b = a5
      · exact .inr (.inr ((.inl hb)))
      · rw [upd_ne hb] at e
        have z := pl b o e
        rcases z with z | z | z
        · exact (.inl z)
        · exact .inr ((.inl z))
        · exact .inr (.inr ((.inr z)))
    have hx1 : upd G5b a5 (.dT []) x = some (.ins C.Growth dx ([("rules", .ref l), ("heights", .ref a1), ("height", nV 0), ("fresh", .ref a2), ("higher", .ref a3), ("begun", .ref a4)] : List (Str × V))) := by rw [upd_ne nxa5.symm]; exact hx
    have va1 : upd G5b a5 (.dT []) a1 = some (.dT []) := by rw [upd_ne na1a5]; exact wa1
    have va2 : upd G5b a5 (.dT []) a2 = some (.lst []) := by rw [upd_ne na2a5]; exact wa2
    have va3 : upd G5b a5 (.dT []) a3 = some (.lst []) := by rw [upd_ne na3a5]; exact wa3
    have va4 : upd G5b a5 (.dT []) a4 = some (.dT []) := by rw [upd_ne na4a5]; exact wa4
    have va5 : upd G5b a5 (.dT []) a5 = some (.dT []) := upd_same
    clear st0 hx pl wa1 wa2 wa3 wa4 ha5
    revert st1 pl1 hx1 va1 va2 va3 va4 va5
    generalize upd G5b a5 (.dT []) = G6a
    intro st0 pl hx wa1 wa2 wa3 wa4 wa5
    refine ⟨_, rfl, x, C.Growth, dx, _, rfl, hx, T.cl_Growth, T.na_Growth_ends, (show 6 < 1000 by decide), ?_⟩
    have ef : putF "ends" (.ref a5) ([("rules", .ref l), ("heights", .ref a1), ("height", nV 0), ("fresh", .ref a2), ("higher", .ref a3), ("begun", .ref a4)] : List (Str × V)) = ([("rules", .ref l), ("heights", .ref a1), ("height", nV 0), ("fresh", .ref a2), ("higher", .ref a3), ("begun", .ref a4), ("ends", .ref a5)] : List (Str × V)) := rfl
    rw [ef]
    have kp : ∀ b o, b ≠ x → G6a b = some o → upd G6a x (.ins C.Growth dx ([("rules", .ref l), ("heights", .ref a1), ("height", nV 0), ("fresh", .ref a2), ("higher", .ref a3), ("begun", .ref a4), ("ends", .ref a5)] : List (Str × V))) b = some o := fun b o hb e => by rw [upd_ne hb]; exact e
    refine q a1 a2 a3 a4 a5 (fun b => if b = a2 then some .fr else if b = a3 then some .hi else none) _ ⟨st0.put hx0, ⟨dx, upd_same⟩, kp _ _ nxa1 wa1, ⟨[], kp _ _ nxa2 wa2, rfl, fun i t y e => nomatch e⟩, ⟨[], kp _ _ nxa3 wa3, rfl, fun i t y e => nomatch e⟩, ⟨[], kp _ _ nxa4 wa4, Nat.le_refl _, fun p k => .inl ⟨rfl, rfl⟩⟩, ⟨[], kp _ _ nxa5 wa5, Nat.le_refl _, fun p k => .inl ⟨rfl, rfl⟩⟩, fun p k => ⟨Nat.le_refl _, Nat.le_refl _⟩, if_pos rfl, (by rw [if_neg na2a3.symm, if_pos rfl]), fun a t e => ?_, hx0, za1, za4, za5, na1a4, na1a5, na4a5, fun b o e => (upd_pl rfl b o e).elim (pl b o) fun z => .inr (.inr (.inr z))⟩
    by_cases h2 : a = a2
    · subst h2
      exact ⟨za2, _, kp _ _ nxa2 wa2⟩
    · rw [if_neg h2] at e
      by_cases h3 : a = a3
      · subst h3
        exact ⟨za3, _, kp _ _ nxa3 wa3⟩
      · rw [if_neg h3] at e
        cases e
end
end FR


set_option linter.all false
set_option maxRecDepth 100000
set_option maxHeartbeats 4000000
namespace FR
open PySem L2

theorem seq_rest {t u : TS} {D : Ends} {σ : St} {H : Hp} (M : St → Hp → Prop) (rest : ∀ σ' H', M σ' H' → u D σ' H') (h : (∀ σ' H', M σ' H' → u D σ' H') → t { D with nx := u D } σ H) : tSeq t u D σ H := h rest
theorem addE_same (E : EnT) (p : Str) (k j : Nat) : addE E p k j p k = E p k ++ [j] := if_pos ⟨rfl, rfl⟩
theorem addE_len {E : EnT} {N : Nat} (h : ∀ p k, (E p k).length ≤ N) (p : Str) (k j : Nat) : ∀ p' k', (addE E p k j p' k').length ≤ N + 1 := fun p' k' => by
  unfold addE
  have := h p' k'
  split
  · rw [List.length_append]; show _ + 1 ≤ _; omega
  · omega
theorem addB_same (B : BgT) (p : Str) (k : Nat) (q : Nat × Nat × Nat) : addB B p k q p k = B p k ++ [q] := if_pos ⟨rfl, rfl⟩
theorem addB_len {B : BgT} {N : Nat} (h : ∀ p k, (B p k).length ≤ N) (p : Str) (k : Nat) (q : Nat × Nat × Nat) : ∀ p' k', (addB B p k q p' k').length ≤ N + 1 := fun p' k' => by
  unfold addB
  have := h p' k'
  split
  · rw [List.length_append]; show _ + 1 ≤ _; omega
  · omega
section
variable {P : Program} {w : World} {K : PySem.W.Frag} {mg : Str → Option Value} {base : Heap} {C : Adr}
theorem sc_Growth_meet_part : FnScope ["self", "node", "key", "end", "number", "done", "begin", "longer"] ["self", "node"] (defScope s_Growth_meet_part) := ⟨rfl, rfl, rfl, by decide +kernel, rfl, by decide +kernel, by decide +kernel⟩
theorem ok_Growth_meet_part {f : Addr} {fd : FuncData} (F : Fun K "meet_part" "Growth.meet_part" s_Growth_meet_part f fd) (T : Txt K mg C) (U_Growth_stand : UsedM P w K mg CX0 1 C.Growth "stand" ["self", "node"] (spStand C.Growth)) : FnOk P w K mg base CX0 2 f fd ["self", "node"] (spMeetP C.Growth) := by
  obtain ⟨f_Growth_stand, fd_Growth_stand, G_Growth_stand, me_Growth_stand, b_Growth_stand⟩ := U_Growth_stand.ok
  refine F.ok sc_Growth_meet_part (fun vs H Q E h => ?_) (fun cdv A outer s H vs Q E hr h => ?_)
  · obtain ⟨H0, x, l, a1, a2, a3, a4, a5, t, xs, g, cs, own, hs, met, fresh, higher, h, B, En, N, p, k, j, rfl, _⟩ := h
    rfl
  · obtain ⟨H0, x, l, a1, a2, a3, a4, a5, t, xs, g, cs, own, hs, met, fresh, higher, hh, B, En, N, p, k, j, rfl, mi, q⟩ := h
    have hu := hu_of hr
    refine qex ?_
    refine ⟨_, (qss_cons ⟨(ps_set (i := 2) sc_Growth_meet_part.nd rfl (Or.inl rfl) (pe_tup (pa_cons (pe_ix (ix_tupK K rfl) (pv 1) pe_int (fun _ _ => rfl)) (pa_cons (pe_ix (ix_tupK K rfl) (pv 1) pe_int (fun _ _ => rfl)) pa_nil))))⟩
      (qss_cons ⟨(ps_set (i := 3) sc_Growth_meet_part.nd rfl (Or.inl rfl) (pe_ix (ix_tupK K rfl) (pv 1) pe_int (fun _ _ => rfl)))⟩
      (qss_cons ⟨(ps_expr (pe_bmK K rfl PySem.F.plainAttrs_list PySem.F.slot_list_append PySem.F.type_list_append mt_append (pe_dsetd hu (pe_fldK K rfl (pv 0) rfl) (pv 2) (pe_lst pa_nil) ⟨rfl, rfl, rfl, rfl⟩) (pa_cons (pv 3) pa_nil)))⟩
      (qss_one ⟨(ps_for PassesOwn.never rfl (pi_listK K rfl (pe_dget2 hu (pe_fldK K rfl (pv 0) rfl) (pv 2) (pe_lst pa_nil) ⟨rfl, rfl, rfl, rfl⟩)) (pg_tupK K rfl (n := 3) rfl (pgs_cons (pg_name (i := 4) sc_Growth_meet_part.nd rfl (Or.inl rfl)) (pgs_cons (pg_name (i := 5) sc_Growth_meet_part.nd rfl (Or.inl rfl)) (pgs_cons (pg_name (i := 6) sc_Growth_meet_part.nd rfl (Or.inl rfl)) pgs_nil)))) (pss_cons (ps_set (i := 7) sc_Growth_meet_part.nd rfl (Or.inl rfl) (pe_tup (pa_cs (pv 4) (pa_cs (pe_op op_add (pv 5) pe_int) (pa_cs (pv 6) (pa_cs (pv 3) pa_nil))))))
      (pss_one (ps_if (pt_cmp (pc_dnotin hu (pv 7) (pe_fldK K rfl (pv 0) rfl))) (pss_one (ps_expr (pe_meth (pv 0) T.cl_Growth me_Growth_stand (G_Growth_stand base) (hr.mono (by decide)) b_Growth_stand .nil pass0 (pa_cons (pv 7) pa_nil)))) pss_nil))))⟩)))), ?_⟩
    have ht : H t = some (.tup [.str p, nV k, nV j]) := mi.ht
    obtain ⟨hlen, hml⟩ := mi.gr.len mi.env.hg mi.env.hc
    have hmet : met.length ≤ 2100000 := by rw [List.length_append] at hml; omega
    have hNN := mi.hN
    refine ⟨_, rfl, t, _, 0, _, rfl, rfl, SqT.of ht, rfl, _, rfl, t, _, 1, _, rfl, rfl, SqT.of ht, rfl, line1000 (by show 2 ≤ 1000; decide), fun b hb => ?_⟩
    have s1 := Same.upd (o := .tup [.str p, nV k]) hb
    have g1 := mi.st.same s1 (upd_pl rfl)
    have hb1 : upd H b (.tup [.str p, nV k]) b = some (.tup ((kPK p k).map kV)) := upd_same
    have ht1 := s1 _ _ ht
    revert s1 g1 hb1 ht1
    generalize upd H b (.tup [.str p, nV k]) = H1
    intro s1 g1 hb1 ht1
    refine ⟨_, rfl, t, _, 2, _, rfl, rfl, SqT.of ht1, rfl, ?_⟩
    dsimp only [gName]
    refine seq_rest (t := tDrop _) (fun σ' H' => σ' = [some (.ref x), some (.ref t), some (.ref b), some (nV j), none, none, none, none] ∧ ∃ own', GSt C.Growth H0 H' x l a1 a2 a3 a4 a5 own' hs fresh higher hh B (addE En p k j) (N + 1) ∧ H' b = some (.tup ((kPK p k).map kV))) ?_ fun rest => ?_
    · rintro σ' H2 ⟨rfl, own', g2, hb2⟩
      obtain ⟨dx, hx⟩ := g2.x_
      obtain ⟨k4, e4, l4, b4⟩ := g2.h4
      refine ⟨_, rfl, x, C.Growth, dx, _, _, rfl, hx, T.cl_Growth, T.na_Growth_begun, rfl, a4, rfl, .inr ⟨_, .inl e4⟩, _, rfl, Nat.zero_le _, fun e he => ?_⟩
      have s3 := Same.upd (o := .lst []) he
      refine ⟨_, DGet.t (s3 _ _ e4) (s3 _ _ hb2), ?_⟩
      have g3 := g2.same s3 (upd_pl rfl)
      obtain ⟨la, ts, ela, hla, htri, n1, n2⟩ : ∃ la ts, (valV k4 (kPK p k)).getD (.ref e) = .ref la ∧ upd H2 e (.lst []) la = some (.lst (ts.map V.ref)) ∧ Tri (upd H2 e (.lst [])) ts (B p k) ∧ la ≠ a1 ∧ la ≠ a2 := by
        obtain ⟨t2, f2, _⟩ := g2.h2
        rcases b4 p k with z | ⟨a, ts, z1, z2, z3, z4⟩
        · refine ⟨e, [], by rw [z.1]; rfl, upd_same, by rw [z.2]; exact ⟨rfl, fun i t q e1 => nomatch e1⟩, fun z => ?_, fun z => ?_⟩
          · rw [z, g2.h1] at he
            cases he
          · rw [z, f2] at he
            cases he
        · refine ⟨a, ts, by rw [z1]; rfl, s3 _ _ z3, z4.keep fun _ _ => s3 _ _, ne_of z3 g2.h1 (fun z => nomatch z), fun z => ?_⟩
          rw [z, g2.o2] at z2
          cases z2
      rw [ela]
      have c0 := mi.cl
      have gr0 := mi.gr
      have lk0 := mi.lk
      have ts_len : ts.length = (B p k).length := htri.1
      refine ⟨la, rfl, ⟨_, SqL.of hla⟩, for_list (K := K) (a := la) (xs := ts.map V.ref) (fun i σ H4 => ∃ hs' fresh' v4 v5 v6 v7, σ = [some (.ref x), some (.ref t), some (.ref b), some (nV j), v4, v5, v6, v7] ∧ GSt C.Growth H0 H4 x l a1 a2 a3 a4 a5 own' hs' fresh' higher hh B (addE En p k j) (N + 1) ∧ GrM g cs hs' (met ++ [.part p k j]) fresh' higher hh ∧ Cl g hs' (· ∈ met) ∧ lookN hs' (.part p k j) = some hh ∧ (∀ q ∈ (B p k).take i, ∃ v, lookN hs' (.beg q.1 (q.2.1 + 1) q.2.2 j) = some v) ∧ H4 la = some (.lst (ts.map V.ref)) ∧ Tri H4 ts (B p k) ∧ ∀ z m, lookN hs z = some m → lookN hs' z = some m) ⟨hs, fresh, none, none, none, none, rfl, g3, gr0, c0, lk0, fun q hq => absurd hq (by simp), hla, htri, fun _ _ z => z⟩ ?_ ?_ ?_⟩
      · rintro i σ H4 _ ⟨hs', fresh', v4, v5, v6, v7, rfl, _, _, _, _, _, hla4, _⟩
        exact SqL.of hla4
      · rintro i y σ H4 hi ⟨hs', fresh', v4, v5, v6, v7, rfl, g4, gr4, c4, lk4, hall, hla4, tri4, hmono⟩
        rw [List.getElem?_map] at hi
        cases eu : ts[i]? with
        | none => rw [eu] at hi; cases hi
        | some u =>
          rw [eu] at hi
          cases hi
          have hil : i < (B p k).length := by rw [← ts_len]; exact (List.getElem?_eq_some_iff.mp eu).1
          obtain ⟨⟨r, d, i0⟩, eq⟩ : ∃ q, (B p k)[i]? = some q := ⟨_, List.getElem?_eq_getElem hil⟩
          have hu4 : H4 u = some (.tup [nV r, nV d, nV i0]) := tri4.2 i u _ eu eq
          obtain ⟨hm, hpt⟩ := (mi.mt.bg p k r d i0).mp (List.mem_of_getElem? eq)
          have etk : (B p k).take (i + 1) = (B p k).take i ++ [(r, d, i0)] := by rw [List.take_add_one, eq]; rfl
          refine ⟨u, _, rfl, SqT.of hu4, rfl, _, _, rfl, _, _, rfl, _, _, rfl, rfl, ?_⟩
          refine ⟨_, rfl, _, rfl, _, _, rfl, rfl, _, rfl, _, rfl, line1000 (by show 4 ≤ 1000; decide), fun tn htn => ?_⟩
          have s5 := Same.upd (o := .tup [nV r, .int ((d : Int) + 1), nV i0, nV j]) htn
          have hn : upd H4 tn (.tup [nV r, .int ((d : Int) + 1), nV i0, nV j]) tn = some (.tup ((keyN (.beg r (d + 1) i0 j)).map kV)) := upd_same
          have g5 := g4.same s5 (upd_pl rfl)
          have hla5 := s5 _ _ hla4
          have tri5 : Tri (upd H4 tn (.tup [nV r, .int ((d : Int) + 1), nV i0, nV j])) ts (B p k) := tri4.keep fun _ _ => s5 _ _
          dsimp only [gName]
          revert g5 hn hla5 tri5
          generalize upd H4 tn (.tup [nV r, .int ((d : Int) + 1), nV i0, nV j]) = H5
          intro hn g5 hla5 tri5
          obtain ⟨dx5, hx5⟩ := g5.x_
          refine ⟨_, rfl, _, rfl, x, C.Growth, dx5, _, _, rfl, hx5, T.cl_Growth, T.na_Growth_heights, rfl, a1, _, rfl, DGet.t g5.h1 hn, _, rfl, ?_⟩
          rw [valV_hs, Option.isSome_map]
          have hall2 : ∀ hs2 : Hs, (∀ y m, lookN hs' y = some m → lookN hs2 y = some m) → (∃ v, lookN hs2 (.beg r (d + 1) i0 j) = some v) → ∀ q ∈ (B p k).take (i + 1), ∃ v, lookN hs2 (.beg q.1 (q.2.1 + 1) q.2.2 j) = some v := fun hs2 hm2 hv2 q hq => by
            rw [etk] at hq
            rcases List.mem_append.mp hq with hq | hq
            · obtain ⟨v, hv⟩ := hall q hq
              exact ⟨v, hm2 _ _ hv⟩
            · cases List.mem_singleton.mp hq
              exact hv2
          obtain ⟨hlen4, hml4⟩ := gr4.len mi.env.hg mi.env.hc
          cases hlk : lookN hs' (.beg r (d + 1) i0 j) with
          | some v =>
            refine iteF ?_
            exact ⟨hs', fresh', _, _, _, _, rfl, g5, gr4, c4, lk4, hall2 hs' (fun _ _ z => z) ⟨v, hlk⟩, hla5, tri5, hmono⟩
          | none =>
            refine iteT ⟨_, rfl, x, dx5, _, rfl, hx5, rfl, _, rfl, H0, x, l, a1, a2, a3, a4, a5, tn, own', hs', fresh', higher, hh, B, addE En p k j, N + 1, .beg r (d + 1) i0 j, rfl, g5, hn, hlk, by omega, by omega, fun H6 g6 st6 => ?_⟩
            obtain ⟨va, hva, hvle⟩ := gr4.vm _ (List.mem_append_left _ hm)
            have lg := gr4.leg _ _ hva
            have lgy := gr4.leg _ _ lk4
            obtain ⟨⟨ru, er, hdl⟩, hik, hkn⟩ := lg
            have hdlt : d < ru.2.1.length := by
              unfold partAt at hpt
              rw [er] at hpt
              have hpt : ru.2.1[d]? = some p := hpt
              exact (List.getElem?_eq_some_iff.mp hpt).1
            have gr6 := gr4.stand hlk (show Leg g cs (.beg r (d + 1) i0 j) from ⟨⟨ru, er, hdlt⟩, Nat.le_trans hik lgy.2.1, lgy.2.2⟩) (.inr ⟨d, k, p, va, hh, rfl, hpt, hva, lk4, (Nat.max_eq_right hvle).symm⟩)
            obtain ⟨t2, f2, _⟩ := g5.h2
            refine ⟨_, _, _, _, _, _, rfl, g6, gr6, c4.snoc hlk (fun y hy => ?_), look_old hlk _ _ lk4, hall2 _ (look_old hlk) ⟨hh, by rw [look_snoc _ _ _ _ hlk, if_pos rfl]⟩, st6 _ _ n1 n2 hla5, tri5.keep fun c ys hc => st6 _ _ (ne_of hc g5.h1 (fun z => nomatch z)) (ne_of hc f2 (fun z => nomatch z)) hc, fun z m e => look_old hlk _ _ (hmono z m e)⟩
            obtain ⟨v, hv, _⟩ := gr4.vm y (List.mem_append_left _ hy)
            exact ⟨v, hv⟩
      · rintro σ H4 ⟨hs', fresh', v4, v5, v6, v7, rfl, g4, gr4, c4, lk4, hall, hla4, tri4, hmono⟩
        rw [List.length_map, ts_len, List.take_length] at hall
        exact q _ _ _ _ _ _ _ _ g4 gr4 (cl_part c4 gr4 lk4 mi.mt hall) (mi.mt.addE p k j) (by omega) hmono
    · obtain ⟨dx, hx⟩ := g1.x_
      obtain ⟨k5, e5, l5, b5⟩ := g1.h5
      refine ⟨_, rfl, x, C.Growth, dx, _, _, rfl, hx, T.cl_Growth, T.na_Growth_ends, rfl, a5, rfl, .inr ⟨_, .inl e5⟩, _, rfl, Nat.zero_le _, fun e he => ?_⟩
      have s2 := Same.upd (o := .lst []) he
      have hEl : ∀ p k, (En p k).length ≤ N := fun p k => (g1.hb p k).2
      refine ⟨k5, kPK p k, b, s2 _ _ e5, rfl, s2 _ _ hb1, (by rw [sizeLine_eq]; omega), fun v hv => ?_, fun hn => ?_⟩
      · rcases b5 p k with z | ⟨a, z1, z2, z3⟩
        · rw [z.1] at hv
          cases hv
        · rw [z1] at hv
          cases hv
          have nb : b ≠ a := ne_of hb1 z3 (fun z => nomatch z)
          refine ⟨.inl ⟨rfl, _, SqL.of (s2 _ _ z3)⟩, _, rfl, a, _, _, rfl, rfl, s2 _ _ z3, (by rw [List.length_map, sizeLine_eq]; have := hEl p k; omega), ?_⟩
          have e6 : (En p k).map nV ++ [nV j] = (addE En p k j p k).map nV := by rw [addE_same, List.map_append]; rfl
          rw [e6]
          exact rest _ _ ⟨rfl, own, ((g1.same s2 (upd_pl rfl)).more (Nat.le_succ N)).enSet z2 (fun p' k' h => if_neg h) (s2 _ _ e5) z1 (addE_len hEl p k j), by rw [upd_ne nb]; exact s2 _ _ hb1⟩
      · have o0 := g1.fine he
        have ne : e ≠ a5 := fun z => by rw [z, e5] at he; cases he
        have nb : b ≠ e := fun z => by rw [← z, hb1] at he; cases he
        have nb5 : b ≠ a5 := ne_of hb1 e5 (fun z => nomatch z)
        have g2 := (g1.same s2 (upd_pl rfl)).enNew (p := p) (k := k) upd_same (g1.sm.free he) o0 (s2 _ _ e5) hn
        have hE0 : En p k = [] := by
          rcases b5 p k with z | ⟨a, z1, z2, z3⟩
          · exact z.2
          · rw [hn] at z1
            cases z1
        have he3 : upd (upd H1 e (.lst [])) a5 (.dT (putK k5 (kPK p k) (.ref e))) e = some (.lst []) := by rw [upd_ne ne]; exact upd_same
        refine ⟨.inl ⟨rfl, _, SqL.of he3⟩, _, rfl, e, _, _, rfl, rfl, he3, (by rw [sizeLine_eq]; decide), ?_⟩
        have e6 : ([] : List V) ++ [nV j] = (addE En p k j p k).map nV := by rw [addE_same, hE0]; rfl
        rw [e6]
        exact rest _ _ ⟨rfl, _, g2.enSet (if_pos rfl) (fun p' k' h => if_neg h) upd_same (by rw [valV_put, if_pos rfl]) (addE_len hEl p k j), by rw [upd_ne nb, upd_ne nb5]; exact s2 _ _ hb1⟩
end
end FR


set_option linter.all false
set_option maxRecDepth 100000
set_option maxHeartbeats 4000000
namespace FR
open PySem L2

section
variable {P : Program} {w : World} {K : PySem.W.Frag} {mg : Str → Option Value} {base : Heap} {C : Adr}
theorem sc_Growth_meet_beginning : FnScope ["self", "node", "part", "number", "done", "begin", "key", "end", "longer"] ["self", "node", "part"] (defScope s_Growth_meet_beginning) := ⟨rfl, rfl, rfl, by decide +kernel, rfl, by decide +kernel, by decide +kernel⟩
theorem ok_Growth_meet_beginning {f : Addr} {fd : FuncData} (F : Fun K "meet_beginning" "Growth.meet_beginning" s_Growth_meet_beginning f fd) (T : Txt K mg C) (U_Growth_stand : UsedM P w K mg CX0 1 C.Growth "stand" ["self", "node"] (spStand C.Growth)) : FnOk P w K mg base CX0 2 f fd ["self", "node", "part"] (spMeetB C.Growth) := by
  obtain ⟨f_Growth_stand, fd_Growth_stand, G_Growth_stand, me_Growth_stand, b_Growth_stand⟩ := U_Growth_stand.ok
  refine F.ok sc_Growth_meet_beginning (fun vs H Q E h => ?_) (fun cdv A outer s H vs Q E hr h => ?_)
  · obtain ⟨H0, x, l, a1, a2, a3, a4, a5, t, xs, g, cs, own, hs, met, fresh, higher, h, B, En, N, r, d, i, k, p, rfl, _⟩ := h
    rfl
  · obtain ⟨H0, x, l, a1, a2, a3, a4, a5, t, xs, g, cs, own, hs, met, fresh, higher, hh, B, En, N, r, d, i0, k, p, rfl, hpt, mi, q⟩ := h
    have hu := hu_of hr
    refine qex ?_
    refine ⟨_, (qss_cons ⟨(ps_set (i := 3) sc_Growth_meet_beginning.nd rfl (Or.inl rfl) (pe_ix (ix_tupK K rfl) (pv 1) pe_int (fun _ _ => rfl)))⟩
      (qss_cons ⟨(ps_set (i := 4) sc_Growth_meet_beginning.nd rfl (Or.inl rfl) (pe_ix (ix_tupK K rfl) (pv 1) pe_int (fun _ _ => rfl)))⟩
      (qss_cons ⟨(ps_set (i := 5) sc_Growth_meet_beginning.nd rfl (Or.inl rfl) (pe_ix (ix_tupK K rfl) (pv 1) pe_int (fun _ _ => rfl)))⟩
      (qss_cons ⟨(ps_set (i := 6) sc_Growth_meet_beginning.nd rfl (Or.inl rfl) (pe_tup (pa_cons (pv 2) (pa_cons (pe_ix (ix_tupK K rfl) (pv 1) pe_int (fun _ _ => rfl)) pa_nil))))⟩
      (qss_cons ⟨(ps_expr (pe_bmK K rfl PySem.F.plainAttrs_list PySem.F.slot_list_append PySem.F.type_list_append mt_append (pe_dsetd hu (pe_fldK K rfl (pv 0) rfl) (pv 6) (pe_lst pa_nil) ⟨rfl, rfl, rfl, rfl⟩) (pa_cons (pe_tup (pa_cons (pv 3) (pa_cons (pv 4) (pa_cons (pv 5) pa_nil)))) pa_nil)))⟩
      (qss_one ⟨(ps_for PassesOwn.never rfl (pi_listK K rfl (pe_dget2 hu (pe_fldK K rfl (pv 0) rfl) (pv 6) (pe_lst pa_nil) ⟨rfl, rfl, rfl, rfl⟩)) (pg_name (i := 7) sc_Growth_meet_beginning.nd rfl (Or.inl rfl)) (pss_cons (ps_set (i := 8) sc_Growth_meet_beginning.nd rfl (Or.inl rfl) (pe_tup (pa_cs (pv 3) (pa_cs (pe_op op_add (pv 4) pe_int) (pa_cs (pv 5) (pa_cs (pv 7) pa_nil))))))
      (pss_one (ps_if (pt_cmp (pc_dnotin hu (pv 8) (pe_fldK K rfl (pv 0) rfl))) (pss_one (ps_expr (pe_meth (pv 0) T.cl_Growth me_Growth_stand (G_Growth_stand base) (hr.mono (by decide)) b_Growth_stand .nil pass0 (pa_cons (pv 8) pa_nil)))) pss_nil))))⟩)))))), ?_⟩
    have ht : H t = some (.tup [nV r, nV d, nV i0, nV k]) := mi.ht
    obtain ⟨hlen, hml⟩ := mi.gr.len mi.env.hg mi.env.hc
    have hmet : met.length ≤ 2100000 := by rw [List.length_append] at hml; omega
    have hNN := mi.hN
    refine ⟨_, rfl, t, _, 0, _, rfl, rfl, SqT.of ht, rfl, ?_⟩
    refine ⟨_, rfl, t, _, 1, _, rfl, rfl, SqT.of ht, rfl, ?_⟩
    refine ⟨_, rfl, t, _, 2, _, rfl, rfl, SqT.of ht, rfl, ?_⟩
    refine ⟨_, rfl, _, rfl, t, _, 3, _, rfl, rfl, SqT.of ht, rfl, line1000 (by show 2 ≤ 1000; decide), fun b hb => ?_⟩
    have s1 := Same.upd (o := .tup [.str p, nV k]) hb
    have g1 := mi.st.same s1 (upd_pl rfl)
    have hb1 : upd H b (.tup [.str p, nV k]) b = some (.tup ((kPK p k).map kV)) := upd_same
    dsimp only [gName]
    revert s1 g1 hb1
    generalize upd H b (.tup [.str p, nV k]) = H1
    intro s1 g1 hb1
    refine seq_rest (t := tDrop _) (fun σ' H' => σ' = [some (.ref x), some (.ref t), some (.str p), some (nV r), some (nV d), some (nV i0), some (.ref b), none, none] ∧ ∃ own', GSt C.Growth H0 H' x l a1 a2 a3 a4 a5 own' hs fresh higher hh (addB B p k (r, d, i0)) En (N + 1) ∧ H' b = some (.tup ((kPK p k).map kV))) ?_ fun rest => ?_
    · rintro σ' H2 ⟨rfl, own', g2, hb2⟩
      obtain ⟨dx, hx⟩ := g2.x_
      obtain ⟨k5, e5, l5, b5⟩ := g2.h5
      refine ⟨_, rfl, x, C.Growth, dx, _, _, rfl, hx, T.cl_Growth, T.na_Growth_ends, rfl, a5, rfl, .inr ⟨_, .inl e5⟩, _, rfl, Nat.zero_le _, fun e he => ?_⟩
      have s3 := Same.upd (o := .lst []) he
      refine ⟨_, DGet.t (s3 _ _ e5) (s3 _ _ hb2), ?_⟩
      have g3 := g2.same s3 (upd_pl rfl)
      obtain ⟨la, ela, hla, n1, n2⟩ : ∃ la, (valV k5 (kPK p k)).getD (.ref e) = .ref la ∧ upd H2 e (.lst []) la = some (.lst ((En p k).map nV)) ∧ la ≠ a1 ∧ la ≠ a2 := by
        obtain ⟨t2, f2, _⟩ := g2.h2
        rcases b5 p k with z | ⟨a, z1, z2, z3⟩
        · refine ⟨e, by rw [z.1]; rfl, by rw [z.2]; exact upd_same, fun z => ?_, fun z => ?_⟩
          · rw [z, g2.h1] at he
            cases he
          · rw [z, f2] at he
            cases he
        · refine ⟨a, by rw [z1]; rfl, s3 _ _ z3, ne_of z3 g2.h1 (fun z => nomatch z), fun z => ?_⟩
          rw [z, g2.o2] at z2
          cases z2
      rw [ela]
      have c0 := mi.cl
      have gr0 := mi.gr
      have lk0 := mi.lk
      refine ⟨la, rfl, ⟨_, SqL.of hla⟩, for_list (K := K) (a := la) (xs := (En p k).map nV) (fun i σ H4 => ∃ hs' fresh' v7 v8, σ = [some (.ref x), some (.ref t), some (.str p), some (nV r), some (nV d), some (nV i0), some (.ref b), v7, v8] ∧ GSt C.Growth H0 H4 x l a1 a2 a3 a4 a5 own' hs' fresh' higher hh (addB B p k (r, d, i0)) En (N + 1) ∧ GrM g cs hs' (met ++ [.beg r d i0 k]) fresh' higher hh ∧ Cl g hs' (· ∈ met) ∧ lookN hs' (.beg r d i0 k) = some hh ∧ (∀ j ∈ (En p k).take i, ∃ v, lookN hs' (.beg r (d + 1) i0 j) = some v) ∧ H4 la = some (.lst ((En p k).map nV)) ∧ ∀ z m, lookN hs z = some m → lookN hs' z = some m) ⟨hs, fresh, none, none, rfl, g3, gr0, c0, lk0, fun q hq => absurd hq (by simp), hla, fun _ _ z => z⟩ ?_ ?_ ?_⟩
      · rintro i σ H4 _ ⟨hs', fresh', v7, v8, rfl, _, _, _, _, _, hla4, _⟩
        exact SqL.of hla4
      · rintro i y σ H4 hi ⟨hs', fresh', v7, v8, rfl, g4, gr4, c4, lk4, hall, hla4, hmono⟩
        rw [List.getElem?_map] at hi
        cases ej : (En p k)[i]? with
        | none => rw [ej] at hi; cases hi
        | some j =>
          rw [ej] at hi
          cases hi
          have hm := (mi.mt.en p k j).mp (List.mem_of_getElem? ej)
          have etk : (En p k).take (i + 1) = (En p k).take i ++ [j] := by rw [List.take_add_one, ej]; rfl
          refine ⟨_, rfl, _, rfl, _, _, rfl, rfl, _, rfl, _, rfl, line1000 (by show 4 ≤ 1000; decide), fun tn htn => ?_⟩
          have s5 := Same.upd (o := .tup [nV r, .int ((d : Int) + 1), nV i0, nV j]) htn
          have hn : upd H4 tn (.tup [nV r, .int ((d : Int) + 1), nV i0, nV j]) tn = some (.tup ((keyN (.beg r (d + 1) i0 j)).map kV)) := upd_same
          have g5 := g4.same s5 (upd_pl rfl)
          have hla5 := s5 _ _ hla4
          dsimp only [gName]
          revert g5 hn hla5
          generalize upd H4 tn (.tup [nV r, .int ((d : Int) + 1), nV i0, nV j]) = H5
          intro hn g5 hla5
          obtain ⟨dx5, hx5⟩ := g5.x_
          refine ⟨_, rfl, _, rfl, x, C.Growth, dx5, _, _, rfl, hx5, T.cl_Growth, T.na_Growth_heights, rfl, a1, _, rfl, DGet.t g5.h1 hn, _, rfl, ?_⟩
          rw [valV_hs, Option.isSome_map]
          have hall2 : ∀ hs2 : Hs, (∀ y m, lookN hs' y = some m → lookN hs2 y = some m) → (∃ v, lookN hs2 (.beg r (d + 1) i0 j) = some v) → ∀ j' ∈ (En p k).take (i + 1), ∃ v, lookN hs2 (.beg r (d + 1) i0 j') = some v := fun hs2 hm2 hv2 j' hq => by
            rw [etk] at hq
            rcases List.mem_append.mp hq with hq | hq
            · obtain ⟨v, hv⟩ := hall j' hq
              exact ⟨v, hm2 _ _ hv⟩
            · cases List.mem_singleton.mp hq
              exact hv2
          obtain ⟨hlen4, hml4⟩ := gr4.len mi.env.hg mi.env.hc
          cases hlk : lookN hs' (.beg r (d + 1) i0 j) with
          | some v =>
            refine iteF ?_
            exact ⟨hs', fresh', _, _, rfl, g5, gr4, c4, lk4, hall2 hs' (fun _ _ z => z) ⟨v, hlk⟩, hla5, hmono⟩
          | none =>
            refine iteT ⟨_, rfl, x, dx5, _, rfl, hx5, rfl, _, rfl, H0, x, l, a1, a2, a3, a4, a5, tn, own', hs', fresh', higher, hh, addB B p k (r, d, i0), En, N + 1, .beg r (d + 1) i0 j, rfl, g5, hn, hlk, by omega, by omega, fun H6 g6 st6 => ?_⟩
            obtain ⟨va, hva, hvle⟩ := gr4.vm _ (List.mem_append_left _ hm)
            have lg := gr4.leg _ _ lk4
            have lgy := gr4.leg _ _ hva
            obtain ⟨⟨ru, er, hdl⟩, hik, hkn⟩ := lg
            have hdlt : d < ru.2.1.length := by
              unfold partAt at hpt
              rw [er] at hpt
              have hpt : ru.2.1[d]? = some p := hpt
              exact (List.getElem?_eq_some_iff.mp hpt).1
            have gr6 := gr4.stand hlk (show Leg g cs (.beg r (d + 1) i0 j) from ⟨⟨ru, er, hdlt⟩, Nat.le_trans hik lgy.2.1, lgy.2.2⟩) (.inr ⟨d, k, p, hh, va, rfl, hpt, lk4, hva, (Nat.max_eq_left hvle).symm⟩)
            refine ⟨_, _, _, _, rfl, g6, gr6, c4.snoc hlk (fun y hy => ?_), look_old hlk _ _ lk4, hall2 _ (look_old hlk) ⟨hh, by rw [look_snoc _ _ _ _ hlk, if_pos rfl]⟩, st6 _ _ n1 n2 hla5, fun z m e => look_old hlk _ _ (hmono z m e)⟩
            obtain ⟨v, hv, _⟩ := gr4.vm y (List.mem_append_left _ hy)
            exact ⟨v, hv⟩
      · rintro σ H4 ⟨hs', fresh', v7, v8, rfl, g4, gr4, c4, lk4, hall, hla4, hmono⟩
        rw [List.length_map, List.take_length] at hall
        exact q _ _ _ _ _ _ _ _ g4 gr4 (cl_beg hpt c4 gr4 lk4 mi.mt hall) (mi.mt.addB hpt) (by omega) hmono
    · obtain ⟨dx, hx⟩ := g1.x_
      obtain ⟨k4, e4, l4, b4⟩ := g1.h4
      refine ⟨_, rfl, x, C.Growth, dx, _, _, rfl, hx, T.cl_Growth, T.na_Growth_begun, rfl, a4, rfl, .inr ⟨_, .inl e4⟩, _, rfl, Nat.zero_le _, fun e he => ?_⟩
      have s2 := Same.upd (o := .lst []) he
      have hBl : ∀ p k, (B p k).length ≤ N := fun p k => (g1.hb p k).1
      refine ⟨k4, kPK p k, b, s2 _ _ e4, rfl, s2 _ _ hb1, (by rw [sizeLine_eq]; omega), fun v hv => ?_, fun hn => ?_⟩
      · rcases b4 p k with z | ⟨a, ts, z1, z2, z3, z4⟩
        · rw [z.1] at hv
          cases hv
        · rw [z1] at hv
          cases hv
          have nb : b ≠ a := ne_of hb1 z3 (fun z => nomatch z)
          refine ⟨.inl ⟨rfl, _, SqL.of (s2 _ _ z3)⟩, _, rfl, _, rfl, _, rfl, line1000 (by show 3 ≤ 1000; decide), fun tt htt => ?_⟩
          have s3 := Same.upd (o := .tup [nV r, nV d, nV i0]) htt
          have s23 := s2.trans s3
          refine ⟨a, _, _, rfl, rfl, s23 _ _ z3, (by rw [List.length_map, z4.1, sizeLine_eq]; have := hBl p k; omega), ?_⟩
          have e6 : ts.map V.ref ++ [V.ref tt] = (ts ++ [tt]).map V.ref := by rw [List.map_append]; rfl
          rw [e6]
          refine rest _ _ ⟨rfl, own, (((g1.same s2 (upd_pl rfl)).same s3 (upd_pl rfl)).more (Nat.le_succ N)).bgSet z2 (B' := addB B p k (r, d, i0)) (fun p' k' h => if_neg h) ?_ (s23 _ _ e4) z1 (addB_len hBl p k (r, d, i0)), by rw [upd_ne nb]; exact s23 _ _ hb1⟩
          rw [addB_same]
          exact (z4.keep fun _ _ => s23 _ _).snoc upd_same
      · have o0 := g1.fine he
        have ne : e ≠ a4 := fun z => by rw [z, e4] at he; cases he
        have nb : b ≠ e := fun z => by rw [← z, hb1] at he; cases he
        have nb4 : b ≠ a4 := ne_of hb1 e4 (fun z => nomatch z)
        have g2 := (g1.same s2 (upd_pl rfl)).bgNew (p := p) (k := k) upd_same (g1.sm.free he) o0 (s2 _ _ e4) hn
        have hB0 : B p k = [] := by
          rcases b4 p k with z | ⟨a, ts, z1, z2, z3, z4⟩
          · exact z.2
          · rw [hn] at z1
            cases z1
        have he3 : upd (upd H1 e (.lst [])) a4 (.dT (putK k4 (kPK p k) (.ref e))) e = some (.lst []) := by rw [upd_ne ne]; exact upd_same
        have hb3 : upd (upd H1 e (.lst [])) a4 (.dT (putK k4 (kPK p k) (.ref e))) b = some (.tup ((kPK p k).map kV)) := by rw [upd_ne nb4]; exact s2 _ _ hb1
        have e43 : upd (upd H1 e (.lst [])) a4 (.dT (putK k4 (kPK p k) (.ref e))) a4 = some (.dT (putK k4 (kPK p k) (.ref e))) := upd_same
        revert g2 he3 hb3 e43
        generalize upd (upd H1 e (.lst [])) a4 (.dT (putK k4 (kPK p k) (.ref e))) = H3
        intro g2 he3 hb3 e43
        refine ⟨.inl ⟨rfl, _, SqL.of he3⟩, _, rfl, _, rfl, _, rfl, line1000 (by show 3 ≤ 1000; decide), fun tt htt => ?_⟩
        have s3 := Same.upd (o := .tup [nV r, nV d, nV i0]) htt
        refine ⟨e, _, _, rfl, rfl, s3 _ _ he3, (by rw [sizeLine_eq]; decide), ?_⟩
        have e6 : ([] : List V) ++ [V.ref tt] = ([tt] : List Addr).map V.ref := rfl
        rw [e6]
        refine rest _ _ ⟨rfl, _, (g2.same s3 (upd_pl rfl)).bgSet (if_pos rfl) (B' := addB B p k (r, d, i0)) (fun p' k' h => if_neg h) ?_ (s3 _ _ e43) (by rw [valV_put, if_pos rfl]) (addB_len hBl p k (r, d, i0)), by rw [upd_ne nb]; exact s3 _ _ hb3⟩
        rw [addB_same, hB0]
        exact Tri.snoc (ts := []) (ns := []) ⟨rfl, fun i t q e1 => nomatch e1⟩ upd_same
end
end FR


set_option linter.all false
set_option maxRecDepth 100000
set_option maxHeartbeats 4000000
namespace FR
open PySem L2

theorem last_or {α : Type} (l : List α) : l = [] ∨ ∃ a b, l = a ++ [b] := by
  cases h : l.reverse with
  | nil => exact .inl (List.reverse_eq_nil_iff.mp h)
  | cons b a =>
    refine .inr ⟨a.reverse, b, ?_⟩
    have := congrArg List.reverse h
    rw [List.reverse_reverse, List.reverse_cons] at this
    exact this
section
variable {P : Program} {w : World} {K : PySem.W.Frag} {mg : Str → Option Value} {base : Heap} {C : Adr}
theorem sc_Growth_meet : FnScope ["self", "node", "rule", "name"] ["self", "node"] (defScope s_Growth_meet) := ⟨rfl, rfl, rfl, by decide +kernel, rfl, by decide +kernel, by decide +kernel⟩
theorem ok_Growth_meet {f : Addr} {fd : FuncData} (F : Fun K "meet" "Growth.meet" s_Growth_meet f fd) (T : Txt K mg C) (U_Growth_meet_part : UsedM P w K mg CX0 2 C.Growth "meet_part" ["self", "node"] (spMeetP C.Growth)) (U_Growth_meet_beginning : UsedM P w K mg CX0 2 C.Growth "meet_beginning" ["self", "node", "part"] (spMeetB C.Growth)) (U_Growth_stand_higher : UsedM P w K mg CX0 1 C.Growth "stand_higher" ["self", "node"] (spStandUp C.Growth)) : FnOk P w K mg base CX0 3 f fd ["self", "node"] (spMeet C.Growth) := by
  obtain ⟨f_Growth_meet_part, fd_Growth_meet_part, G_Growth_meet_part, me_Growth_meet_part, b_Growth_meet_part⟩ := U_Growth_meet_part.ok
  obtain ⟨f_Growth_meet_beginning, fd_Growth_meet_beginning, G_Growth_meet_beginning, me_Growth_meet_beginning, b_Growth_meet_beginning⟩ := U_Growth_meet_beginning.ok
  obtain ⟨f_Growth_stand_higher, fd_Growth_stand_higher, G_Growth_stand_higher, me_Growth_stand_higher, b_Growth_stand_higher⟩ := U_Growth_stand_higher.ok
  refine F.ok sc_Growth_meet (fun vs H Q E h => ?_) (fun cdv A outer s H vs Q E hr h => ?_)
  · obtain ⟨H0, x, l, a1, a2, a3, a4, a5, t, xs, g, cs, own, hs, met, fresh, higher, h, B, En, N, y, rfl, _⟩ := h
    rfl
  · obtain ⟨H0, x, l, a1, a2, a3, a4, a5, t, xs, g, cs, own, hs, met, fresh, higher, hh, B, En, N, y, rfl, mi, q⟩ := h
    have hu := hu_of hr
    refine qex ?_
    refine ⟨_, (qss_cons ⟨(ps_if (pt_cmpR op_eq (pe_callB (call_len_seqK K rfl) (by rfl) T.z_len PyProof.Rows.Boot.«len» (pa_cons (pv 1) pa_nil)) pe_int (nomark _)) (pss_cons (ps_expr (pe_meth (pv 0) T.cl_Growth me_Growth_meet_part (G_Growth_meet_part base) (hr.mono (by decide)) b_Growth_meet_part .nil pass0 (pa_cons (pv 1) pa_nil)))
      (pss_one ps_retN)) pss_nil)⟩
      (qss_cons ⟨(ps_set (i := 2) sc_Growth_meet.nd rfl (Or.inl rfl) (pe_ix (ix_listK K rfl) (pe_fldK K rfl (pv 0) rfl) (pe_ix (ix_tupK K rfl) (pv 1) pe_int (fun _ _ => rfl)) (fun _ _ => rfl)))⟩
      (qss_cons ⟨(ps_if (pt_cmpR op_lt (pe_ix (ix_tupK K rfl) (pv 1) pe_int (fun _ _ => rfl)) (pe_callB (call_len_seqK K rfl) (by rfl) T.z_len PyProof.Rows.Boot.«len» (pa_cons (pe_ix (ix_tupK K rfl) (pv 2) pe_int (fun _ _ => rfl)) pa_nil)) (nomark _)) (pss_cons (ps_expr (pe_meth (pv 0) T.cl_Growth me_Growth_meet_beginning (G_Growth_meet_beginning base) (hr.mono (by decide)) b_Growth_meet_beginning .nil pass0 (pa_cons (pv 1) (pa_cons (pe_ix (ix_tupK K rfl) (pe_ix (ix_tupK K rfl) (pv 2) pe_int (fun _ _ => rfl)) (pe_ix (ix_tupK K rfl) (pv 1) pe_int (fun _ _ => rfl)) (fun _ _ => rfl)) pa_nil))))
      (pss_one ps_retN)) pss_nil)⟩
      (qss_cons ⟨(ps_set (i := 3) sc_Growth_meet.nd rfl (Or.inl rfl) (pe_tup (pa_cons (pe_ix (ix_tupK K rfl) (pv 2) pe_int (fun _ _ => rfl)) (pa_cons (pe_ix (ix_tupK K rfl) (pv 1) pe_int (fun _ _ => rfl)) (pa_cons (pe_ix (ix_tupK K rfl) (pv 1) pe_int (fun _ _ => rfl)) pa_nil)))))⟩
      (qss_one ⟨(ps_if (pt_cmp (pc_dnotin hu (pv 3) (pe_fldK K rfl (pv 0) rfl))) (pss_one (ps_expr (pe_meth (pv 0) T.cl_Growth me_Growth_stand_higher (G_Growth_stand_higher base) (hr.mono (by decide)) b_Growth_stand_higher .nil pass0 (pa_cons (pv 3) pa_nil)))) pss_nil)⟩))))), ?_⟩
    obtain ⟨dx, hx⟩ := mi.st.x_
    have hNN := mi.hN
    obtain ⟨hlen, hml⟩ := mi.gr.len mi.env.hg mi.env.hc
    cases y with
    | part p k j =>
      have ht : H t = some (.tup [.str p, nV k, nV j]) := mi.ht
      refine ⟨_, rfl, t, _, rfl, .inr (SqT.of ht), rfl, _, rfl, iteT ?_⟩
      exact ⟨_, rfl, x, dx, _, rfl, hx, rfl, _, rfl, H0, x, l, a1, a2, a3, a4, a5, t, xs, g, cs, own, hs, met, fresh, higher, hh, B, En, N, p, k, j, rfl, mi, fun H' own' hs' fresh' higher' B' E' N' e1 e2 e3 e4 e5 e6 => q H' own' hs' fresh' higher' B' E' N' e1 e2 e3 e4 e5 e6⟩
    | beg r d i k =>
      have ht : H t = some (.tup [nV r, nV d, nV i, nV k]) := mi.ht
      have lg := mi.gr.leg _ _ mi.lk
      obtain ⟨⟨ru, er, hdl⟩, hik, hkn⟩ := lg
      have hl := mi.st.sm _ _ mi.env.hl
      obtain ⟨tr, pr, hat, htr, hpr⟩ := rule_num (mi.env.hds.same mi.st.sm) er
      refine ⟨_, rfl, t, _, rfl, .inr (SqT.of ht), rfl, _, rfl, iteF ?_⟩
      refine ⟨_, rfl, x, C.Growth, dx, _, _, rfl, hx, T.cl_Growth, T.na_Growth_rules, rfl, _, rfl, t, _, 0, _, rfl, rfl, SqT.of ht, rfl, l, _, _, _, rfl, rfl, SqL.of hl, hat, ?_⟩
      refine ⟨_, rfl, t, _, 1, _, rfl, rfl, SqT.of ht, rfl, _, rfl, tr, _, 1, _, rfl, rfl, SqT.of htr, rfl, pr, _, rfl, .inr (SqT.of hpr), _, _, rfl, rfl, _, rfl, ite2 (fun hlt => ?_) fun hlt => ?_⟩
      · have hlt' : (d : Int) < ((ru.2.1.map V.str).length : Int) := of_decide_eq_true hlt
        rw [List.length_map] at hlt'
        have hd : d < ru.2.1.length := by omega
        have ep : ru.2.1[d]? = some ru.2.1[d] := List.getElem?_eq_getElem hd
        have hpa : partAt g r d = some ru.2.1[d] := by
          unfold partAt
          rw [er]
          exact ep
        have hat2 : atI (ru.2.1.map V.str) (d : Int) = some (.str ru.2.1[d]) := atI_nat (by rw [List.getElem?_map, ep]; rfl)
        exact ⟨_, rfl, x, dx, _, rfl, hx, rfl, _, rfl, _, rfl, tr, _, 1, _, rfl, rfl, SqT.of htr, rfl, _, rfl, t, _, 1, _, rfl, rfl, SqT.of ht, rfl, pr, _, _, _, rfl, rfl, SqT.of hpr, hat2, H0, x, l, a1, a2, a3, a4, a5, t, xs, g, cs, own, hs, met, fresh, higher, hh, B, En, N, r, d, i, k, _, rfl, hpa, mi, fun H' own' hs' fresh' higher' B' E' N' e1 e2 e3 e4 e5 e6 => q H' own' hs' fresh' higher' B' E' N' e1 e2 e3 e4 e5 e6⟩
      · have hlt' : ¬ (d : Int) < ((ru.2.1.map V.str).length : Int) := fun z => hlt (decide_eq_true z)
        rw [List.length_map] at hlt'
        have ed : d = ru.2.1.length := by omega
        subst ed
        have hpa : partAt g r ru.2.1.length = none := by
          unfold partAt
          rw [er]
          exact List.getElem?_eq_none (Nat.le_refl _)
        refine ⟨_, rfl, tr, _, 0, _, rfl, rfl, SqT.of htr, rfl, _, rfl, t, _, 2, _, rfl, rfl, SqT.of ht, rfl, _, rfl, t, _, 3, _, rfl, rfl, SqT.of ht, rfl, line1000 (by show 3 ≤ 1000; decide), fun nm hnm => ?_⟩
        have s1 := Same.upd (o := .tup [.str ru.1, nV i, nV k]) hnm
        have hn : upd H nm (.tup [.str ru.1, nV i, nV k]) nm = some (.tup ((keyN (.part ru.1 i k)).map kV)) := upd_same
        have g1 := mi.st.same s1 (upd_pl rfl)
        dsimp only [gName]
        revert g1 hn
        generalize upd H nm (.tup [.str ru.1, nV i, nV k]) = H1
        intro hn g1
        obtain ⟨dx1, hx1⟩ := g1.x_
        refine ⟨_, rfl, _, rfl, x, C.Growth, dx1, _, _, rfl, hx1, T.cl_Growth, T.na_Growth_heights, rfl, a1, _, rfl, DGet.t g1.h1 hn, _, rfl, ?_⟩
        rw [valV_hs, Option.isSome_map]
        cases hlk : lookN hs (.part ru.1 i k) with
        | some v =>
          refine iteF ?_
          exact q _ _ _ _ _ _ _ _ g1 mi.gr (cl_end er mi.cl mi.gr mi.lk ⟨v, hlk⟩) (mi.mt.addC hpa) (by omega) (fun _ _ z => z)
        | none =>
          refine iteT ⟨_, rfl, x, dx1, _, rfl, hx1, rfl, _, rfl, H0, x, l, a1, a2, a3, a4, a5, nm, own, hs, fresh, higher, hh, B, En, N, .part ru.1 i k, rfl, g1, hn, hlk, by omega, by omega, fun H2 g2 st2 => ?_⟩
          have gr2 := mi.gr.standUp hlk ⟨.inl (List.mem_map.mpr ⟨ru, List.mem_of_getElem? er, rfl⟩), hik, hkn⟩ (.inr ⟨r, ru, hh, er, rfl, mi.lk, rfl⟩)
          have c2 := mi.cl.snoc (n := hh + 1) hlk (fun y hy => by
            obtain ⟨v, hv, _⟩ := mi.gr.vm y (List.mem_append_left _ hy)
            exact ⟨v, hv⟩)
          exact q _ _ _ _ _ _ _ _ g2 gr2 (cl_end er c2 gr2 (look_old hlk _ _ mi.lk) ⟨hh + 1, by rw [look_snoc _ _ _ _ hlk, if_pos rfl]⟩) (mi.mt.addC hpa) (by omega) (look_old hlk)
theorem sc_Growth_grow : FnScope ["self"] ["self"] (defScope s_Growth_grow) := ⟨rfl, rfl, rfl, by decide +kernel, rfl, by decide +kernel, by decide +kernel⟩
theorem ok_Growth_grow {f : Addr} {fd : FuncData} (F : Fun K "grow" "Growth.grow" s_Growth_grow f fd) (T : Txt K mg C) (U_Growth_meet : UsedM P w K mg CX0 3 C.Growth "meet" ["self", "node"] (spMeet C.Growth)) : FnOk P w K mg base CX0 4 f fd ["self"] (spGrow C.Growth) := by
  obtain ⟨f_Growth_meet, fd_Growth_meet, G_Growth_meet, me_Growth_meet, b_Growth_meet⟩ := U_Growth_meet.ok
  refine F.ok sc_Growth_grow (fun vs H Q E h => ?_) (fun cdv A outer s H vs Q E hr h => ?_)
  · obtain ⟨H0, x, l, a1, a2, a3, a4, a5, xs, g, cs, own, hs, fresh, B, En, rfl, _⟩ := h
    rfl
  · obtain ⟨H0, x, l, a1, a2, a3, a4, a5, xs, g, cs, own, hs, fresh, B, En, rfl, env, g0, gr0, mt0, q⟩ := h
    refine ⟨_, (pss_one (ps_while PassesOwn.never (pt_truthK K rfl (pe_fldK K rfl (pv 0) rfl) (fun _ => rfl)) (pss_cons (ps_while PassesOwn.never (pt_truthK K rfl (pe_fldK K rfl (pv 0) rfl) (fun _ => rfl)) (pss_one (ps_expr (pe_meth (pv 0) T.cl_Growth me_Growth_meet (G_Growth_meet base) (hr.mono (by decide)) b_Growth_meet .nil pass0 (pa_cons (pe_bm0K K rfl PySem.F.plainAttrs_list PySem.F.slot_list_pop PySem.F.type_list_pop mt_pop (pe_fldK K rfl (pv 0) rfl)) pa_nil)))))
      (pss_cons (ps_fldK K rfl (pv 0) (pe_fldK K rfl (pv 0) rfl) rfl)
      (pss_cons (ps_fldK K rfl (pv 0) (pe_lst pa_nil) rfl)
      (pss_one (ps_fldaugK K rfl (pv 0) pe_int in_add))))))), ?_⟩
    refine ⟨fun μ σ H2 => ∃ a2' a3' own' hs' met fresh' h' B' E' N', σ = [some (.ref x)] ∧ GSt C.Growth H0 H2 x l a1 a2' a3' a4 a5 own' hs' fresh' [] h' B' E' N' ∧ GrM g cs hs' met fresh' [] h' ∧ Cl g hs' (· ∈ met) ∧ Met g met B' E' ∧ N' ≤ met.length ∧ (∀ z m, lookN hs z = some m → lookN hs' z = some m) ∧ μ = 3000000 - met.length, ⟨_, a2, a3, own, hs, [], fresh, 0, B, En, 0, rfl, g0, gr0, ⟨fun r d i k p j a b m1 => (nomatch m1), fun r ru i j a er m1 => (nomatch m1)⟩, mt0, Nat.le_refl _, fun _ _ z => z, rfl⟩, ?_⟩
    rintro μ σ H2 ⟨a2', a3', own', hs', met, fresh', h', B', E', N', rfl, g2, gr2, c2, mt2, hN2, mono2, rfl⟩
    obtain ⟨dx2, hx2⟩ := g2.x_
    obtain ⟨ts2, f2, n2⟩ := g2.h2
    rcases last_or fresh' with rfl | ⟨fr1, y1, rfl⟩
    · have ts0 : ts2 = [] := List.eq_nil_of_length_eq_zero n2.1
      subst ts0
      refine ⟨_, rfl, x, C.Growth, dx2, _, _, rfl, hx2, T.cl_Growth, T.na_Growth_fresh, rfl, false, .inl ⟨_, SqL.of f2, rfl⟩, iteF ?_⟩
      exact q _ _ _ _ _ _ _ _ _ g2 (gr2.fin_ c2) mono2
    · have htrue : (!(ts2.map V.ref).isEmpty) = true := by
        have := n2.1
        rw [List.length_append] at this
        cases ts2 with
        | nil => simp at this
        | cons a b => rfl
      refine ⟨_, rfl, x, C.Growth, dx2, _, _, rfl, hx2, T.cl_Growth, T.na_Growth_fresh, rfl, true, .inl ⟨_, SqL.of f2, htrue.symm⟩, iteT ?_⟩
      refine ⟨fun σ' H' => ∃ m', m' < 3000000 - met.length ∧ ∃ a2' a3' own' hs' met fresh' h' B' E' N', σ' = [some (.ref x)] ∧ GSt C.Growth H0 H' x l a1 a2' a3' a4 a5 own' hs' fresh' [] h' B' E' N' ∧ GrM g cs hs' met fresh' [] h' ∧ Cl g hs' (· ∈ met) ∧ Met g met B' E' ∧ N' ≤ met.length ∧ (∀ z m, lookN hs z = some m → lookN hs' z = some m) ∧ m' = 3000000 - met.length, fun _ _ z => z, ?_⟩
      refine ⟨fun ν σ H3 => ∃ own2 hs2 met2 fresh2 higher2 B2 E2 N2, σ = [some (.ref x)] ∧ GSt C.Growth H0 H3 x l a1 a2' a3' a4 a5 own2 hs2 fresh2 higher2 h' B2 E2 N2 ∧ GrM g cs hs2 met2 fresh2 higher2 h' ∧ Cl g hs2 (· ∈ met2) ∧ Met g met2 B2 E2 ∧ N2 ≤ met2.length ∧ (∀ z m, lookN hs z = some m → lookN hs2 z = some m) ∧ (met.length < met2.length ∨ (fresh2 ≠ [] ∧ met.length ≤ met2.length)) ∧ ν = 3000000 - met2.length, ⟨_, own', hs', met, _, [], B', E', N', rfl, g2, gr2, c2, mt2, hN2, mono2, .inr ⟨by simp, Nat.le_refl _⟩, rfl⟩, ?_⟩
      rintro ν σ H3 ⟨own2, hs2, met2, fresh2, higher2, B2, E2, N2, rfl, g3, gr3, c3, mt3, hN3, mono3, hlt3, rfl⟩
      obtain ⟨dx3, hx3⟩ := g3.x_
      obtain ⟨ts3, f3, n3⟩ := g3.h2
      obtain ⟨hl3, hs3⟩ := gr3.len env.hg env.hc
      rcases last_or fresh2 with rfl | ⟨fr2, y2, rfl⟩
      · have ts0 : ts3 = [] := List.eq_nil_of_length_eq_zero n3.1
        subst ts0
        have hlt : met.length < met2.length := hlt3.elim (fun z => z) fun z => (z.1 rfl).elim
        refine ⟨_, rfl, x, C.Growth, dx3, _, _, rfl, hx3, T.cl_Growth, T.na_Growth_fresh, rfl, false, .inl ⟨_, SqL.of f3, rfl⟩, iteF ?_⟩
        refine ⟨_, rfl, x, C.Growth, dx3, _, _, rfl, hx3, T.cl_Growth, T.na_Growth_higher, rfl, _, rfl, x, C.Growth, dx3, _, rfl, hx3, T.cl_Growth, T.na_Growth_fresh, (show 7 < 1000 by decide), ?_⟩
        have ef1 : putF "fresh" (.ref a3') (fldG l a1 h' a2' a3' a4 a5) = fldG l a1 h' a3' a3' a4 a5 := rfl
        rw [ef1]
        refine ⟨Nat.zero_le _, fun e he => ?_⟩
        have nxe : x ≠ e := fun z => by rw [← z, upd_same] at he; cases he
        have he0 : H3 e = none := by rw [upd_ne nxe.symm] at he; exact he
        refine ⟨_, rfl, x, C.Growth, dx3, fldG l a1 h' a3' a3' a4 a5, rfl, (by rw [upd_ne nxe]; exact upd_same), T.cl_Growth, T.na_Growth_higher, (show 7 < 1000 by decide), ?_⟩
        have ef2 : putF "higher" (.ref e) (fldG l a1 h' a3' a3' a4 a5) = fldG l a1 h' a3' e a4 a5 := rfl
        rw [ef2]
        refine ⟨_, rfl, x, C.Growth, dx3, _, _, rfl, upd_same, T.cl_Growth, T.na_Growth_height, rfl, _, _, rfl, rfl, dx3, _, upd_same, (show 7 < 1000 by decide), ?_⟩
        have ef3 : putF "height" (.int ((h' : Int) + 1)) (fldG l a1 h' a3' e a4 a5) = fldG l a1 (h' + 1) a3' e a4 a5 := rfl
        rw [ef3]
        have g4 := g3.swap (H' := upd (upd (upd (upd H3 x (.ins C.Growth dx3 (fldG l a1 h' a3' a3' a4 a5))) e (.lst [])) x (.ins C.Growth dx3 (fldG l a1 h' a3' e a4 a5))) x (.ins C.Growth dx3 (fldG l a1 (h' + 1) a3' e a4 a5))) he0 (fun b o hb z => ?_) upd_same (by rw [upd_ne nxe.symm, upd_ne nxe.symm]; exact upd_same) (fun b u z => (upd_pl rfl b u z).elim (fun z => (upd_pl rfl b u z).elim (fun z => (upd_pl rfl b u z).elim (upd_pl rfl b u) .inr) .inr) .inr)
        · exact ⟨3000000 - met2.length, by omega, a3', e, _, hs2, met2, higher2, h' + 1, B2, E2, N2, rfl, g4, gr3.next, c3, mt3, hN3, mono3, rfl⟩
        · have hbe : b ≠ e := fun y => by rw [y, he0] at z; cases z
          rw [upd_ne hb, upd_ne hb, upd_ne hbe, upd_ne hb]
          exact z
      · have hlen3 : ts3.length = fr2.length + 1 := by have := n3.1; rw [List.length_append] at this; exact this
        obtain ⟨ts4, t4, rfl⟩ : ∃ ts4 t4, ts3 = ts4 ++ [t4] := by
          rcases last_or ts3 with rfl | z
          · simp at hlen3
          · exact z
        have htrue3 : (!((ts4 ++ [t4]).map V.ref).isEmpty) = true := by
          cases ts4 <;> rfl
        refine ⟨_, rfl, x, C.Growth, dx3, _, _, rfl, hx3, T.cl_Growth, T.na_Growth_fresh, rfl, true, .inl ⟨_, SqL.of f3, htrue3.symm⟩, iteT ?_⟩
        refine ⟨fun σ' H' => ∃ m', m' < 3000000 - met2.length ∧ ∃ own2 hs2 met2 fresh2 higher2 B2 E2 N2, σ' = [some (.ref x)] ∧ GSt C.Growth H0 H' x l a1 a2' a3' a4 a5 own2 hs2 fresh2 higher2 h' B2 E2 N2 ∧ GrM g cs hs2 met2 fresh2 higher2 h' ∧ Cl g hs2 (· ∈ met2) ∧ Met g met2 B2 E2 ∧ N2 ≤ met2.length ∧ (∀ z m, lookN hs z = some m → lookN hs2 z = some m) ∧ (met.length < met2.length ∨ (fresh2 ≠ [] ∧ met.length ≤ met2.length)) ∧ m' = 3000000 - met2.length, fun _ _ z => z, ?_⟩
        obtain ⟨n4, ht4⟩ := n3.pop
        have f4 : H3 a2' = some (.lst (ts4.map V.ref ++ [.ref t4])) := by rw [f3, List.map_append]; rfl
        have g4 := g3.set2 n4
        have ht5 : upd H3 a2' (.lst (ts4.map V.ref)) t4 = some (.tup ((keyN y2).map kV)) := by rw [upd_ne (ne_of ht4 f3 (fun z => nomatch z))]; exact ht4
        obtain ⟨dx4, hx4⟩ := g4.x_
        refine ⟨_, rfl, x, dx3, _, rfl, hx3, rfl, _, rfl, x, C.Growth, dx3, _, _, rfl, hx3, T.cl_Growth, T.na_Growth_fresh, rfl, .inl ⟨rfl, _, SqL.of f3⟩, a2', _, .ref t4, rfl, rfl, f4, (by simp), ?_⟩
        rw [List.dropLast_concat]
        refine ⟨H0, x, l, a1, a2', a3', a4, a5, t4, xs, g, cs, own2, hs2, met2, fr2, higher2, h', B2, E2, N2, y2, rfl, ⟨env, g4, ht5, gr3.pop, gr3.vf y2 (List.mem_append_right _ (List.mem_singleton.mpr rfl)), c3, mt3, hN3⟩, fun H5 own5 hs5 fresh5 higher5 B5 E5 N5 g5 gr5 c5 mt5 hN5 mono5 => ?_⟩
        have hml : (met2 ++ [y2]).length = met2.length + 1 := by rw [List.length_append]; rfl
        refine ⟨3000000 - (met2 ++ [y2]).length, by omega, own5, hs5, met2 ++ [y2], fresh5, higher5, B5, E5, N5, rfl, g5, gr5, c5, mt5, by omega, fun z m e => mono5 z m (mono3 z m e), .inl (by rcases hlt3 with z | z <;> omega), rfl⟩
end
end FR


set_option linter.all false
set_option maxRecDepth 100000
set_option maxHeartbeats 4000000
namespace FR
open PySem L2


structure BaseOk (g : Gram) (cs : List Nat) (hs : Hs) : Prop where
  sg : ∀ i c, cs[i]? = some c → lookN hs (.part (sgnP c) i (i + 1)) = some 0
  bg : ∀ r i, r < g.length → i ≤ cs.length → lookN hs (.beg r 0 i i) = some 0
def spStanding (CG CT : Addr) : Sp := fun vs H Q E => ∃ (x y : V) (dg d : D), vs = [x, y] ∧ Den H x dg ∧ dg.short = true ∧ Den H y d ∧ d.short = true ∧ Plain H ∧
  (∀ g z, dg = gramD g → okGram g = true → d = .str z → isTextS z = true → ∀ a o hs H', StandOk g z.cps.toList hs → BaseOk g z.cps.toList hs → H a = none → H' a = some (.frz o (.dT (hsD hs))) → Same H H' → Plain H' → Q (.ref a) H') ∧
  (isGramD dg = false → ∀ H', Same H H' → Plain H' → E (.ref CG) none H') ∧ (isGramD dg = true → isTextD d = false → ∀ H', Same H H' → Plain H' → E (.ref CT) none H')
section
variable {P : Program} {w : World} {K : PySem.W.Frag} {mg : Str → Option Value} {base : Heap} {C : Adr}
theorem sc_standing : FnScope ["grammar", "text", "rules", "signs", "growth", "place", "sign", "number"] ["grammar", "text"] (defScope s_standing) := ⟨rfl, rfl, rfl, by decide +kernel, rfl, by decide +kernel, by decide +kernel⟩
theorem ok_standing {f : Addr} {fd : FuncData} (F : Fun K "standing" "standing" s_standing f fd) (T : Txt K mg C) (U_checked : Used P w K mg (CXo P w) 7 "checked" ["thing"] (spChecked C.NoGrammar)) (U_checked_text : Used P w K mg (CXo P w) 3 "checked_text" ["thing"] (spCheckedT C.NoText)) (U_Growth___init__ : UsedI P w K mg CX0 1 C.Growth ["self", "rules"] (spGInit C.Growth)) (U_Growth_stand : UsedM P w K mg CX0 1 C.Growth "stand" ["self", "node"] (spStand C.Growth)) (U_Growth_grow : UsedM P w K mg CX0 4 C.Growth "grow" ["self"] (spGrow C.Growth)) : FnOk P w K mg base (CXo P w) 8 f fd ["grammar", "text"] (spStanding C.NoGrammar C.NoText) := by
  obtain ⟨f_checked, fd_checked, G_checked, m_checked, k_checked, b_checked⟩ := U_checked.ok
  obtain ⟨f_checked_text, fd_checked_text, G_checked_text, m_checked_text, k_checked_text, b_checked_text⟩ := U_checked_text.ok
  obtain ⟨f_Growth___init__, fd_Growth___init__, G_Growth___init__, M_Growth___init__, b_Growth___init__⟩ := U_Growth___init__.ok
  obtain ⟨f_Growth_stand, fd_Growth_stand, G_Growth_stand, me_Growth_stand, b_Growth_stand⟩ := U_Growth_stand.ok
  obtain ⟨f_Growth_grow, fd_Growth_grow, G_Growth_grow, me_Growth_grow, b_Growth_grow⟩ := U_Growth_grow.ok
  refine F.okX sc_standing (fun vs H Q E h => ?_) (fun cdv A outer s H vs Q E hr h => ?_)
  · obtain ⟨x, y, dg, d, rfl, _⟩ := h
    rfl
  · obtain ⟨x, y, dg, d, rfl, denG, shG, den, sh, hp, q, qG, qT⟩ := h
    refine qex ?_
    refine ⟨_, (qss_cons ⟨(ps_set (i := 2) sc_standing.nd rfl (Or.inl rfl) (pe_call (G_checked base) (hr.mono (by decide)) (by rfl) m_checked k_checked b_checked .nil sink_def.on (pa_cons (pv 0) pa_nil)))⟩
      (qss_cons ⟨(ps_set (i := 3) sc_standing.nd rfl (Or.inl rfl) (pe_call (G_checked_text base) (hr.mono (by decide)) (by rfl) m_checked_text k_checked_text b_checked_text .nil sink_def.on (pa_cons (pv 1) pa_nil)))⟩
      (qss_cons ⟨(ps_set (i := 4) sc_standing.nd rfl (Or.inl rfl) (pe_make M_Growth___init__ (G_Growth___init__ base) (hr.mono (by decide)) (by rfl) T.n_Growth b_Growth___init__ .nil pass0 (pa_cons (pv 2) pa_nil)))⟩
      (qss_cons ⟨(ps_for PassesOwn.leaving rfl (pi_enumS rfl T.z_enumerate (pa_cons (pv 3) pa_nil)) (pg_tupK K rfl (n := 2) rfl (pgs_cons (pg_name (i := 5) sc_standing.nd rfl (Or.inl rfl)) (pgs_cons (pg_name (i := 6) sc_standing.nd rfl (Or.inl rfl)) pgs_nil))) (pss_one (ps_expr (pe_meth (pv 4) T.cl_Growth me_Growth_stand (G_Growth_stand base) (hr.mono (by decide)) b_Growth_stand .nil pass0 (pa_cons (pe_tup (pa_cons (pe_op op_add_str pe_str (pv 6)) (pa_cons (pv 5) (pa_cons (pe_op op_add (pv 5) pe_int) pa_nil)))) pa_nil)))))⟩
      (qss_cons ⟨(ps_for PassesOwn.leaving rfl (pi_range1 rfl T.z_range (pa_cons (pe_callB (call_len_seqK K rfl) (by rfl) T.z_len PyProof.Rows.Boot.«len» (pa_cons (pv 2) pa_nil)) pa_nil)) (pg_name (i := 7) sc_standing.nd rfl (Or.inl rfl)) (pss_one (ps_for PassesOwn.leaving rfl (pi_range1 rfl T.z_range (pa_cons (pe_op op_add (pe_callB call_len_str (by rfl) T.z_len PyProof.Rows.Boot.«len» (pa_cons (pv 3) pa_nil)) pe_int) pa_nil)) (pg_name (i := 5) sc_standing.nd rfl (Or.inl rfl)) (pss_one (ps_expr (pe_meth (pv 4) T.cl_Growth me_Growth_stand (G_Growth_stand base) (hr.mono (by decide)) b_Growth_stand .nil pass0 (pa_cons (pe_tup (pa_cs (pv 7) (pa_cs pe_int (pa_cs (pv 5) (pa_cs (pv 5) pa_nil))))) pa_nil)))))))⟩
      (qss_cons ⟨(ps_expr (pe_meth0 (pv 4) T.cl_Growth me_Growth_grow (G_Growth_grow base) (hr.mono (by decide)) b_Growth_grow .nil pass0))⟩
      (qss_one ⟨(ps_ret (pe_keep2 (pe_fldK K rfl (pv 4) rfl)))⟩))))))), ?_⟩
    refine ⟨_, rfl, x, dg, rfl, denG, shG, hp, fun eg l xs ds ed hds hl => ?_, fun e => qG e H (Same.refl H) hp⟩
    obtain ⟨g, rfl, hg⟩ := gram_of eg
    cases ed
    have s1 := Same.upd (o := .lst xs) hl
    have p1 : Plain (upd H l (.lst xs)) := hp.upd rfl
    have hl1 : upd H l (.lst xs) l = some (.lst xs) := upd_same
    have hds1 := hds.same s1
    have den1 := den.same s1
    revert s1 p1 hl1 hds1 den1
    generalize upd H l (.lst xs) = H1
    intro s1 p1 hl1 hds1 den1
    refine ⟨_, rfl, y, d, rfl, den1, sh, p1, fun z ez hz => ?_, fun e => qT eg e H1 s1 p1⟩
    subst ez
    obtain ⟨cs, ecs⟩ : ∃ cs, z.cps.toList = cs := ⟨_, rfl⟩
    have hzt := hz
    unfold isTextS at hzt
    rw [Bool.and_eq_true, decide_eq_true_eq] at hzt
    have hcl : cs.length = z.cps.size := by rw [← ecs, Array.length_toList]
    have hc60 : cs.length ≤ 60 := by rw [hcl]; exact hzt.1
    have env : GEnv H1 l xs g cs := ⟨hl1, hds1, hg, hc60⟩
    have hxl : xs.length = g.length := by rw [hds1.len, List.length_map]
    have g60 := gram_60 hg
    refine ⟨_, rfl, fun gx dx hx hdx hnx => ⟨H1, gx, l, dx, rfl, upd_same, hx, (Same.upd hdx).put hx, (p1.upd rfl).upd rfl, fun a1 a2 a3 a4 a5 own G0 gst0 => ⟨rfl, ?_⟩⟩⟩
    dsimp only [gName]
    refine ⟨_, rfl, z, rfl, for_enumS (z := z) (fun i σ H2 => ∃ hs fresh v5 v6, σ = [some x, some y, some (.ref l), some (.str z), some (.ref gx), v5, v6, none] ∧ GSt C.Growth H1 H2 gx l a1 a2 a3 a4 a5 own hs fresh [] 0 (fun _ _ => []) (fun _ _ => []) 0 ∧ GrM g cs hs [] fresh [] 0 ∧ (∀ i' c, i' < i → cs[i']? = some c → lookN hs (.part (sgnP c) i' (i' + 1)) = some 0) ∧ ∀ n v, lookN hs n = some v → ∃ p i' j', n = .part p i' j' ∧ i' < i) ⟨[], [], none, none, rfl, gst0, ⟨List.nodup_nil, List.Perm.refl _, fun n hn => (nomatch hn), fun n hn => (nomatch hn), fun n hn => (nomatch hn), fun n v e => (nomatch e), fun n v e => (nomatch e)⟩, fun i' c hi => (nomatch hi), fun n v e => (nomatch e)⟩ ?_ ?_⟩
    · rintro i c T0 σ H2 hi hT0 ⟨hs, fresh, v5, v6, rfl, g2, gr2, hb2, hn2⟩
      have hic : cs[i]? = some c := by rw [← ecs, Array.getElem?_toList]; exact hi
      have hil : i < cs.length := (List.getElem?_eq_some_iff.mp hic).1
      have sT := Same.upd (o := .tup [.int (i : Nat), .str ⟨#[c]⟩]) hT0
      have g3 := g2.same sT (upd_pl rfl)
      obtain ⟨dx3, hx3⟩ := g3.x_
      obtain ⟨hlen, hml⟩ := gr2.len hg hc60
      refine ⟨T0, _, rfl, SqT.of upd_same, rfl, _, _, rfl, _, _, rfl, rfl, ?_⟩
      refine ⟨_, rfl, gx, dx3, _, rfl, hx3, rfl, _, rfl, _, _, rfl, rfl, line1000 (by rw [q_one]; show 1 + 1 ≤ 1000; decide), _, rfl, _, rfl, _, _, rfl, rfl, line1000 (by show 3 ≤ 1000; decide), fun tn htn => ?_⟩
      have sN := Same.upd (o := .tup [.str (sgnP c), .int (i : Nat), .int ((i : Int) + 1)]) htn
      have hlk : lookN hs (.part (sgnP c) i (i + 1)) = none := by
        cases e : lookN hs (.part (sgnP c) i (i + 1)) with
        | none => rfl
        | some v =>
          obtain ⟨p, i', j', z1, z2⟩ := hn2 _ _ e
          injection z1 with z3 z4 z5
          omega
      refine ⟨H1, gx, l, a1, a2, a3, a4, a5, tn, own, hs, fresh, [], 0, fun _ _ => [], fun _ _ => [], 0, .part (sgnP c) i (i + 1), rfl, g3.same sN (upd_pl rfl), upd_same, hlk, by omega, by omega, fun H5 g5 _ => ?_⟩
      have gr5 := gr2.stand hlk (show Leg g cs (.part (sgnP c) i (i + 1)) from ⟨.inr ⟨c, hic, rfl, rfl⟩, Nat.le_succ _, hil⟩) (.inl ⟨rfl, c, hic, rfl, rfl⟩)
      refine ⟨_, _, _, _, rfl, g5, gr5, fun i' c' hi' hc' => ?_, fun n v e => ?_⟩
      · by_cases hii : i' = i
        · subst hii
          rw [hic] at hc'
          cases hc'
          rw [look_snoc _ _ _ _ hlk, if_pos rfl]
        · exact look_old hlk _ _ (hb2 i' c' (by omega) hc')
      · rw [look_snoc _ _ _ _ hlk] at e
        split at e
        · rename_i zz
          exact ⟨_, _, _, zz, Nat.lt_succ_self _⟩
        · obtain ⟨p, i', j', z1, z2⟩ := hn2 _ _ e
          exact ⟨p, i', j', z1, by omega⟩
    · rintro σ H2 ⟨hs, fresh, v5, v6, rfl, g2, gr2, hb2, hn2⟩
      have hsg : ∀ i c, cs[i]? = some c → lookN hs (.part (sgnP c) i (i + 1)) = some 0 := fun i c e => hb2 i c (by rw [← hcl]; exact (List.getElem?_eq_some_iff.mp e).1) e
      have hl2 := g2.sm _ _ hl1
      refine ⟨_, rfl, l, _, rfl, .inl (SqL.of hl2), _, rfl, (in62 (by omega) (by omega)).1, (in62 (by omega) (by omega)).2, ?_⟩
      refine for_range (lo := 0) (n := ((xs.length : Int)).toNat) (fun r σ H3 => ∃ hs3 fresh3 v5 v7, σ = [some x, some y, some (.ref l), some (.str z), some (.ref gx), v5, v6, v7] ∧ GSt C.Growth H1 H3 gx l a1 a2 a3 a4 a5 own hs3 fresh3 [] 0 (fun _ _ => []) (fun _ _ => []) 0 ∧ GrM g cs hs3 [] fresh3 [] 0 ∧ (∀ n v, lookN hs n = some v → lookN hs3 n = some v) ∧ (∀ r' i, r' < r → i ≤ cs.length → lookN hs3 (.beg r' 0 i i) = some 0) ∧ ∀ n v, lookN hs3 n = some v → (∃ p i' j', n = .part p i' j') ∨ ∃ r' i', n = .beg r' 0 i' i' ∧ r' < r) ⟨hs, fresh, v5, none, rfl, g2, gr2, fun _ _ e => e, fun r' i hr => (nomatch hr), fun n v e => .inl (let ⟨p, i', j', z1, _⟩ := hn2 n v e; ⟨p, i', j', z1⟩)⟩ ?_ ?_
      · rintro r σ H3 hr ⟨hs3, fresh3, v5, v7, rfl, g3, gr3, mono3, hb3, hn3⟩
        have hrg : r < g.length := by omega
        have zl : z.length ≤ sizeLine := line1000 (by have : z.length = z.cps.size := rfl; omega)
        have zlc : (z.length : Int) = (cs.length : Int) := by rw [hcl]; rfl
        refine ⟨_, rfl, z, rfl, zl, _, _, rfl, rfl, _, rfl, (in62 (by omega) (by omega)).1, (in62 (by omega) (by omega)).2, ?_⟩
        refine for_range (lo := 0) (n := ((z.length : Int) + 1).toNat) (fun i σ H4 => ∃ hs4 fresh4 v5, σ = [some x, some y, some (.ref l), some (.str z), some (.ref gx), v5, v6, some (.int (0 + (r : Int)))] ∧ GSt C.Growth H1 H4 gx l a1 a2 a3 a4 a5 own hs4 fresh4 [] 0 (fun _ _ => []) (fun _ _ => []) 0 ∧ GrM g cs hs4 [] fresh4 [] 0 ∧ (∀ n v, lookN hs n = some v → lookN hs4 n = some v) ∧ (∀ r' i', r' < r ∨ (r' = r ∧ i' < i) → i' ≤ cs.length → lookN hs4 (.beg r' 0 i' i') = some 0) ∧ ∀ n v, lookN hs4 n = some v → (∃ p i' j', n = .part p i' j') ∨ ∃ r' i', n = .beg r' 0 i' i' ∧ (r' < r ∨ (r' = r ∧ i' < i))) ⟨hs3, fresh3, v5, rfl, g3, gr3, mono3, fun r' i' h1 h2 => hb3 r' i' (by omega) h2, fun n v e => (hn3 n v e).elim .inl fun ⟨r', i', z1, z2⟩ => .inr ⟨r', i', z1, .inl z2⟩⟩ ?_ ?_
        · rintro i σ H4 hi ⟨hs4, fresh4, v5, rfl, g4, gr4, mono4, hb4, hn4⟩
          have hic : i ≤ cs.length := by omega
          obtain ⟨dx4, hx4⟩ := g4.x_
          obtain ⟨hlen, hml⟩ := gr4.len hg hc60
          refine ⟨_, rfl, gx, dx4, _, rfl, hx4, rfl, _, rfl, _, rfl, _, rfl, line1000 (by show 4 ≤ 1000; decide), fun tn htn => ?_⟩
          have en : HO.tup [.int (0 + (r : Int)), .int 0, .int (0 + (i : Int)), .int (0 + (i : Int))] = .tup ((keyN (.beg r 0 i i)).map kV) := by
            rw [Int.zero_add, Int.zero_add]
            rfl
          have sN := Same.upd (o := .tup [.int (0 + (r : Int)), .int 0, .int (0 + (i : Int)), .int (0 + (i : Int))]) htn
          have hlk : lookN hs4 (.beg r 0 i i) = none := by
            cases e : lookN hs4 (.beg r 0 i i) with
            | none => rfl
            | some v =>
              rcases hn4 _ _ e with ⟨p, i', j', z1⟩ | ⟨r', i', z1, z2⟩
              · cases z1
              · injection z1 with z3 z4 z5 z6
                omega
          refine ⟨H1, gx, l, a1, a2, a3, a4, a5, tn, own, hs4, fresh4, [], 0, fun _ _ => [], fun _ _ => [], 0, .beg r 0 i i, rfl, g4.same sN (upd_pl rfl), (by rw [← en]; exact upd_same), hlk, by omega, by omega, fun H5 g5 _ => ?_⟩
          obtain ⟨ru, er⟩ : ∃ ru, g[r]? = some ru := ⟨_, List.getElem?_eq_getElem hrg⟩
          have gr5 := gr4.stand hlk (show Leg g cs (.beg r 0 i i) from ⟨⟨ru, er, Nat.zero_le _⟩, Nat.le_refl _, hic⟩) (.inl ⟨rfl, rfl, rfl⟩)
          refine ⟨_, _, _, rfl, g5, gr5, fun n v e => look_old hlk _ _ (mono4 n v e), fun r' i' h1 h2 => ?_, fun n v e => ?_⟩
          · rw [look_snoc _ _ _ _ hlk]
            split
            · rfl
            · rename_i zz
              refine hb4 r' i' ?_ h2
              rcases h1 with h1 | ⟨h1, h3⟩
              · exact .inl h1
              · refine .inr ⟨h1, ?_⟩
                by_cases hii : i' = i
                · exact (zz (by rw [h1, hii])).elim
                · omega
          · rw [look_snoc _ _ _ _ hlk] at e
            split at e
            · rename_i zz
              exact .inr ⟨r, i, zz, .inr ⟨rfl, Nat.lt_succ_self _⟩⟩
            · rcases hn4 _ _ e with z1 | ⟨r', i', z1, z2⟩
              · exact .inl z1
              · exact .inr ⟨r', i', z1, by omega⟩
        · rintro σ H4 ⟨hs4, fresh4, v5, rfl, g4, gr4, mono4, hb4, hn4⟩
          refine ⟨hs4, fresh4, _, _, rfl, g4, gr4, mono4, fun r' i' h1 h2 => hb4 r' i' ?_ h2, fun n v e => ?_⟩
          · by_cases hrr : r' = r
            · exact .inr ⟨hrr, by omega⟩
            · exact .inl (by omega)
          · rcases hn4 _ _ e with z1 | ⟨r', i', z1, z2⟩
            · exact .inl z1
            · exact .inr ⟨r', i', z1, by omega⟩
      · rintro σ H3 ⟨hs3, fresh3, v5, v7, rfl, g3, gr3, mono3, hb3, hn3⟩
        obtain ⟨dx3, hx3⟩ := g3.x_
        refine ⟨_, rfl, gx, dx3, _, rfl, hx3, rfl, H1, gx, l, a1, a2, a3, a4, a5, xs, g, cs, own, hs3, fresh3, fun _ _ => [], fun _ _ => [], rfl, env, g3, gr3, ⟨fun p k r d i => ⟨fun hh => (nomatch hh), fun hh => (nomatch hh.1)⟩, fun p k j => ⟨fun hh => (nomatch hh), fun hh => (nomatch hh)⟩⟩, fun H6 hs6 a2' a3' own6 h6 B6 E6 N6 g6 st6 mono6 => ?_⟩
        obtain ⟨dx6, hx6⟩ := g6.x_
        obtain ⟨k4, f4, _, _⟩ := g6.h4
        obtain ⟨k5, f5, _, _⟩ := g6.h5
        refine ⟨_, rfl, gx, C.Growth, dx6, _, _, rfl, hx6, T.cl_Growth, T.na_Growth_heights, rfl, a1, a4, a5, _, _, _, g6.h1, f4, f5, g6.d14, g6.d15, g6.d45, fun o => ?_⟩
        have bs : BaseOk g cs hs6 := ⟨fun i c e => mono6 _ _ (mono3 _ _ (hsg i c e)), fun r i hr hi => mono6 _ _ (hb3 r i (by omega) hi)⟩
        rw [← ecs] at bs st6
        refine q g z rfl hg rfl hz a1 o hs6 _ st6 bs (s1.free g6.n1) upd_same ?_ ?_
        · exact s1.trans (((g6.sm.to_del g6.n4).to_del g6.n5).put g6.n1)
        · intro b ob eb
          by_cases hb : b = a1
          · subst hb
            rw [upd_same] at eb
            cases eb
            rfl
          · rw [upd_ne hb] at eb
            have h5 : b ≠ a5 := fun zz => by rw [zz, del_self] at eb; cases eb
            rw [del_ne h5] at eb
            have h4 : b ≠ a4 := fun zz => by rw [zz, del_self] at eb; cases eb
            rw [del_ne h4] at eb
            rcases g6.pl b ob eb with zz | zz | zz | zz
            · exact (hb zz).elim
            · exact (h4 zz).elim
            · exact (h5 zz).elim
            · exact zz
end
end FR


set_option linter.all false
set_option maxRecDepth 100000
set_option maxHeartbeats 4000000
namespace FR
open PySem L2
abbrev s__law_cell_at : Stmt := top 29
abbrev s__law_mixed : Stmt := top 30
abbrev s__law_signs : Stmt := top 31
abbrev s__law_names : Stmt := top 32
abbrev s__law_worth : Stmt := top 33
abbrev s__law_parts : Stmt := top 34
abbrev s__law_whole : Stmt := top 41
abbrev s_law : Stmt := top 47
theorem nd_LG__law_k__law_big__law_odd : (["_law_k", "_law_big", "_law_odd"] : List Str).Nodup := by decide +kernel
theorem nd_LG__law_k__law_at__law_base__law_big__law_odd : (["_law_k", "_law_at", "_law_base", "_law_big", "_law_odd"] : List Str).Nodup := by decide +kernel
def spMixed (K : PySem.W.Frag) : Sp := fun vs H Q _ => ∃ (a : Addr) (ns : List Int) (k : Int), vs = [.ref a, .int k] ∧ SqL K H a (ns.map V.int) ∧ 0 ≤ k ∧ k ≤ 1000 ∧ ∀ v : Int, 0 ≤ v → v < 2147483647 → Q (.int v) H
def spSigns : Sp := fun vs H Q _ => ∃ c : Int, vs = [.int c] ∧ Plain H ∧ ∀ l (a b d : Nat) H', good a = true → good b = true → good d = true → Same H H' → Plain H' → H l = none → H' l = some (.lst [.str ⟨#[a]⟩, .str ⟨#[b]⟩, .str ⟨#[d]⟩]) → Q (.ref l) H'
def spNames : Sp := fun vs H Q _ => ∃ c : Int, vs = [.int c] ∧ 0 ≤ c ∧ c < 2147483648 ∧ Plain H ∧ ∀ l (ns : List Str) H', ns.length = 4 → (∀ z ∈ ns, isNameS z = true) → Same H H' → Plain H' → H l = none → H' l = some (.lst (ns.map V.str)) → Q (.ref l) H'
def spWorthL : Sp := fun vs H Q _ => ∃ c : Int, vs = [.int c] ∧ ∀ z : Int, 0 ≤ z → z ≤ 10 ^ 60 → Q (.int z) H
def spParts : Sp := fun vs H Q _ => ∃ (c : Int) (m : Addr) (zs : List Str) (n : Int), vs = [.int c, .ref m, .int n] ∧ H m = some (.lst (zs.map V.str)) ∧ 1 ≤ zs.length ∧ zs.length ≤ 100 ∧ 0 ≤ n ∧ n ≤ 6 ∧ Plain H ∧
  ∀ t (ps : List Str) H', (ps.length : Int) ≤ n → (∀ p ∈ ps, p ∈ zs) → Same H H' → Plain H' → H t = none → H' t = some (.tup (ps.map V.str)) → Q (.ref t) H'
def SOME : Str := halfOf s__law_signs 0 ++ halfOf s__law_signs 1
theorem some_list : SOME.cps.toList = goodCodes := by decide +kernel
theorem some_line : SOME.length ≤ sizeLine := line1000 (by decide +kernel)
theorem name_part {z : Str} (h : isNameS z = true) : isPartS z = true := by
  unfold isPartS
  rw [h, Bool.or_true]
theorem name_cut {z : Str} {c : Nat} {j : Int} (hz : z.length ≤ 7) (hl : z.cps.toList.all letter = true) (hc : letter c = true) (h0 : 0 ≤ j) (h1 : j ≤ z.length) :
    isNameS (Txt.slice z none (some j) ++ ⟨#[c]⟩ ++ Txt.slice z (some j) none) = true := by
  rw [isName_list, app_list, app_list, slice_to h0 h1, slice_from h0 h1]
  have hzl : z.cps.toList.length = z.length := Array.length_toList
  unfold nameL
  have e1 : ((z.cps.toList.take j.toNat ++ [c] ++ z.cps.toList.drop j.toNat).length) = z.length + 1 := by
    rw [List.length_append, List.length_append, List.length_take, List.length_drop, hzl]
    show min j.toNat z.length + 1 + (z.length - j.toNat) = _
    omega
  show (decide (1 ≤ (z.cps.toList.take j.toNat ++ [c] ++ z.cps.toList.drop j.toNat).length) && decide ((z.cps.toList.take j.toNat ++ [c] ++ z.cps.toList.drop j.toNat).length ≤ 8) && (z.cps.toList.take j.toNat ++ [c] ++ z.cps.toList.drop j.toNat).all letter) = true
  rw [e1, decide_eq_true (by omega), decide_eq_true (by omega)]
  rw [List.all_eq_true] at hl
  rw [List.all_append, List.all_append]
  have a1 : (z.cps.toList.take j.toNat).all letter = true := List.all_eq_true.mpr fun x hx => hl x (List.mem_of_mem_take hx)
  have a2 : (z.cps.toList.drop j.toNat).all letter = true := List.all_eq_true.mpr fun x hx => hl x (List.mem_of_mem_drop hx)
  rw [a1, a2]
  show (true && (true && [c].all letter && true)) = true
  rw [List.all_cons, hc]
  rfl
theorem name_mul {c : Nat} {n : Int} (hc : letter c = true) (h0 : 1 ≤ n) (h1 : n ≤ 8) : isNameS (Txt.mul ⟨#[c]⟩ n) = true := by
  rw [isName_list, PyProof.Rows.mul_one_list]
  unfold nameL
  rw [List.length_replicate, decide_eq_true (by omega), decide_eq_true (by omega)]
  show (List.replicate n.toNat c).all letter = true
  rw [List.all_eq_true]
  intro x hx
  rw [(List.mem_replicate.mp hx).2]
  exact hc
section
variable {P : Program} {w : World} {K : PySem.W.Frag} {mg : Str → Option Value} {base : Heap} {C : Adr}
theorem sc__law_cell_at : FnScope ["_law_script", "_law_k"] ["_law_script", "_law_k"] (defScope s__law_cell_at) := ⟨rfl, rfl, rfl, by decide +kernel, rfl, by decide +kernel, by decide +kernel⟩
theorem ok__law_cell_at {f : Addr} {fd : FuncData} (F : Fun K "_law_cell_at" "_law_cell_at" s__law_cell_at f fd) (T : Txt K mg C) : FnOk P w K mg base CX0 1 f fd ["_law_script", "_law_k"] (spCell K) := by
  refine F.ok sc__law_cell_at (fun vs H Q E h => ?_) (fun cdv A outer s H vs Q E hr h => ?_)
  · obtain ⟨a, ns, k, rfl, _⟩ := h
    rfl
  · obtain ⟨a, ns, k, rfl, hS, h0, q⟩ := h
    refine ⟨_, (pss_cons (ps_if (pt_cmpR op_lt (pv 1) (pe_callB (call_len_seqK K rfl) (by rfl) T.z_len PyProof.Rows.Boot.«len» (pa_cons (pv 0) pa_nil)) (nomark _)) (pss_one (ps_ret (pe_ix (ix_listK K rfl) (pv 0) (pv 1) (fun _ _ => rfl)))) pss_nil)
      (pss_one (ps_ret pe_int))), ?_⟩
    refine ⟨_, rfl, _, rfl, a, _, rfl, .inl hS, _, _, rfl, rfl, _, rfl, ?_⟩
    refine ite2 (fun h1 => ?_) fun h1 => ?_
    · have h1' := of_decide_eq_true h1
      obtain ⟨v, hv, hm⟩ := atI_some h0 h1'
      obtain ⟨n, _, rfl⟩ := List.mem_map.mp hm
      exact ⟨_, rfl, _, rfl, a, _, k, _, rfl, rfl, hS, hv, q n⟩
    · exact q 0
theorem sc__law_mixed : FnScope ["_law_script", "_law_k", "_law_cell"] ["_law_script", "_law_k"] (defScope s__law_mixed) := ⟨rfl, rfl, rfl, by decide +kernel, rfl, by decide +kernel, by decide +kernel⟩
theorem ok__law_mixed {f : Addr} {fd : FuncData} (F : Fun K "_law_mixed" "_law_mixed" s__law_mixed f fd) (T : Txt K mg C) (U__law_cell_at : Used P w K mg CX0 1 "_law_cell_at" ["_law_script", "_law_k"] (spCell K)) : FnOk P w K mg base CX0 2 f fd ["_law_script", "_law_k"] (spMixed K) := by
  obtain ⟨f__law_cell_at, fd__law_cell_at, G__law_cell_at, m__law_cell_at, k__law_cell_at, b__law_cell_at⟩ := U__law_cell_at.ok
  refine F.ok sc__law_mixed (fun vs H Q E h => ?_) (fun cdv A outer s H vs Q E hr h => ?_)
  · obtain ⟨a, ns, k, rfl, _⟩ := h
    rfl
  · obtain ⟨a, ns, k, rfl, hS, k0, k1, q⟩ := h
    refine ⟨_, (pss_cons (ps_set (i := 2) sc__law_mixed.nd rfl (Or.inl rfl) (pe_op op_mod (pe_call (G__law_cell_at base) (hr.mono (by decide)) (by rfl) m__law_cell_at k__law_cell_at b__law_cell_at .nil pass0 (pa_cons (pv 0) (pa_cons (pv 1) pa_nil))) pe_int))
      (pss_one (ps_ret (pe_op op_mod (pe_op op_mul (pe_op op_add (pe_op op_add (pe_op op_add (pe_op op_mul (pv 2) (pv 2)) (pv 2)) (pe_op op_mul (pe_op op_mul pe_int (pv 1)) (pv 1))) pe_int) pe_int) pe_int)))), ?_⟩
    refine ⟨_, rfl, _, rfl, a, ns, k, rfl, hS, k0, fun v => ⟨_, _, rfl, rfl, (by show (0 : Int) < 2147483629; decide), ?_⟩⟩
    have c0 : 0 ≤ v % 2147483629 := by omega
    have c1 : v % 2147483629 < 2147483629 := by omega
    refine ⟨_, rfl, _, rfl, _, _, rfl, rfl, .inl ⟨by omega, by omega⟩, _, rfl, _, _, rfl, rfl, _, rfl, _, _, rfl, rfl, .inl ⟨by decide, by decide⟩, _, rfl, _, _, rfl, rfl, .inr ⟨by omega, by omega⟩, _, _, rfl, rfl, _, _, rfl, rfl, _, _, rfl, rfl, .inr ⟨by decide, by decide⟩, _, _, rfl, rfl, (by show (0 : Int) < 2147483647; decide), q _ ?_ ?_⟩
    · exact Int.emod_nonneg _ (by decide)
    · exact Int.emod_lt_of_pos _ (by decide)
theorem sc__law_signs : FnScope ["_law_cell", "_law_some"] ["_law_cell"] (defScope s__law_signs) := ⟨rfl, rfl, rfl, by decide +kernel, rfl, by decide +kernel, by decide +kernel⟩
theorem ok__law_signs {f : Addr} {fd : FuncData} (F : Fun K "_law_signs" "_law_signs" s__law_signs f fd) (T : Txt K mg C) : FnOk P w K mg base CX0 1 f fd ["_law_cell"] (spSigns) := by
  refine F.ok sc__law_signs (fun vs H Q E h => ?_) (fun cdv A outer s H vs Q E hr h => ?_)
  · obtain ⟨c, rfl, _⟩ := h
    rfl
  · obtain ⟨c, rfl, hp, q⟩ := h
    refine ⟨_, (pss_cons (ps_set (i := 1) sc__law_signs.nd rfl (Or.inl rfl) pe_str)
      (pss_cons (ps_set (i := 1) sc__law_signs.nd rfl (Or.inl rfl) (pe_op op_add_str (pv 1) pe_str))
      (pss_one (ps_ret (pe_lst (pa_cons (pe_ix ix_str (pv 1) (pe_op op_mod (pv 0) pe_int) (fun _ _ => rfl)) (pa_cons (pe_ix ix_str (pv 1) (pe_op op_mod (pe_op op_add (pe_op op_add (pv 0) pe_int) (pe_op op_mod (pe_op op_fdiv (pv 0) pe_int) pe_int)) pe_int) (fun _ _ => rfl)) (pa_cons (pe_ix ix_str (pv 1) (pe_op op_mod (pe_op op_add (pe_op op_add (pv 0) pe_int) (pe_op op_mod (pe_op op_fdiv (pv 0) pe_int) pe_int)) pe_int) (fun _ _ => rfl)) pa_nil)))))))), ?_⟩
    refine ⟨_, rfl, halfOf s__law_signs 0, halfOf s__law_signs 1, rfl, rfl, by decide +kernel, ?_⟩
    have at_ : ∀ i : Int, ∃ k, atI SOME.cps.toList (i % 94) = some k ∧ good k = true := fun i => by
      obtain ⟨k, hk, hm⟩ := atI_some (xs := SOME.cps.toList) (i := i % 94) (by omega) (by rw [some_list, codes_len]; omega)
      rw [some_list] at hm
      exact ⟨k, hk, codes_good hm⟩
    obtain ⟨k1, e1, g1⟩ := at_ c
    obtain ⟨k2, e2, g2⟩ := at_ (c + 1 + c / 94 % 46)
    obtain ⟨k3, e3, g3⟩ := at_ (c + 47 + c / 4324 % 46)
    refine ⟨_, rfl, _, rfl, _, _, rfl, rfl, (by show (0 : Int) < 94; decide), SOME, _, k1, rfl, rfl, some_line, e1, ?_⟩
    refine ⟨_, rfl, _, rfl, _, _, rfl, rfl, _, rfl, _, _, rfl, rfl, ⟨by decide, by decide⟩, _, _, rfl, rfl, (by show (0 : Int) < 46; decide), _, _, rfl, rfl, _, _, rfl, rfl, (by show (0 : Int) < 94; decide), SOME, _, k2, rfl, rfl, some_line, e2, ?_⟩
    refine ⟨_, rfl, _, rfl, _, _, rfl, rfl, _, rfl, _, _, rfl, rfl, ⟨by decide, by decide⟩, _, _, rfl, rfl, (by show (0 : Int) < 46; decide), _, _, rfl, rfl, _, _, rfl, rfl, (by show (0 : Int) < 94; decide), SOME, _, k3, rfl, rfl, some_line, e3, ?_⟩
    exact ⟨line1000 (by show 3 ≤ 1000; decide), fun l hl => q l k1 k2 k3 _ g1 g2 g3 (Same.upd hl) (hp.upd rfl) hl upd_same⟩
theorem sc__law_names : FnScope ["_law_cell", "_law_big", "_law_odd", "_law_k", "_law_base", "_law_at"] ["_law_cell"] (defScope s__law_names) := ⟨rfl, rfl, rfl, by decide +kernel, rfl, by decide +kernel, by decide +kernel⟩
theorem ok__law_names {f : Addr} {fd : FuncData} (F : Fun K "_law_names" "_law_names" s__law_names f fd) (T : Txt K mg C) : FnOk P w K mg base CX0 1 f fd ["_law_cell"] (spNames) := by
  refine F.ok sc__law_names (fun vs H Q E h => ?_) (fun cdv A outer s H vs Q E hr h => ?_)
  · obtain ⟨c, rfl, _⟩ := h
    rfl
  · obtain ⟨c, rfl, c0, c1, hp, q⟩ := h
    refine ⟨_, (pss_cons (ps_set (i := 1) sc__law_names.nd rfl (Or.inr rfl) pe_str)
      (pss_cons (ps_set (i := 2) sc__law_names.nd rfl (Or.inr rfl) (pe_op op_mod (pv 0) pe_int))
      (pss_cons (ps_set (i := 0) sc__law_names.nd rfl (Or.inl rfl) (pe_op op_fdiv (pv 0) pe_int))
      (pss_cons (ps_if (pt_cmpR op_eq (pe_op op_mod (pv 0) pe_int) pe_int (nomark _)) (pss_one (ps_ret (pe_comp (N := ["_law_k", "_law_big", "_law_odd"]) (ρ := [none, some 1, some 2]) rfl (CompScope.closes ["_law_cell", "_law_big", "_law_odd", "_law_k", "_law_base", "_law_at"] (defScope s__law_names).names rfl rfl rfl rfl (by decide +kernel) (by decide +kernel) (fun x h => cell_has h) (by decide +kernel) rfl (by decide +kernel)) (pi_range1 rfl T.z_range (pa_cons pe_int pa_nil)) (fun _ _ _ _ _ => (pg_name (i := 0) nd_LG__law_k__law_big__law_odd rfl (Or.inl rfl) (.inr rfl))) (fun _ _ _ _ _ => pts_nil) (fun _ _ _ _ _ => (pe_op op_mul_str (pe_ix ix_str (pv 1) (pv 2) (fun _ _ => rfl)) (pe_op op_sub (pe_op op_add (pe_op op_mul pe_int (pv 0)) pe_int) (pe_op op_fdiv (pv 0) pe_int))))))) pss_nil)
      (pss_cons (ps_set (i := 4) sc__law_names.nd rfl (Or.inr rfl) pe_str)
      (pss_cons (ps_for PassesOwn.never rfl (pi_range1 rfl T.z_range (pa_cons (pe_op op_mod (pe_op op_fdiv (pv 0) pe_int) pe_int) pa_nil)) (pg_name (i := 3) sc__law_names.nd rfl (Or.inl rfl)) (pss_one (ps_set (i := 4) sc__law_names.nd rfl (Or.inr rfl) (pe_op op_add_str (pv 4) (pe_ix ix_str (pv 1) (pe_op op_mod (pe_op op_fdiv (pe_op op_mul (pv 0) (pe_op op_add (pv 3) pe_int)) pe_int) pe_int) (fun _ _ => rfl))))))
      (pss_cons (ps_set (i := 5) sc__law_names.nd rfl (Or.inr rfl) (pe_op op_mod (pe_op op_fdiv (pv 0) pe_int) (pe_op op_add (pe_callB call_len_str (by rfl) T.z_len PyProof.Rows.Boot.«len» (pa_cons (pv 4) pa_nil)) pe_int)))
      (pss_one (ps_ret (pe_comp (N := ["_law_k", "_law_at", "_law_base", "_law_big", "_law_odd"]) (ρ := [none, some 5, some 4, some 1, some 2]) rfl (CompScope.closes ["_law_cell", "_law_big", "_law_odd", "_law_k", "_law_base", "_law_at"] (defScope s__law_names).names rfl rfl rfl rfl (by decide +kernel) (by decide +kernel) (fun x h => cell_has h) (by decide +kernel) rfl (by decide +kernel)) (pi_range1 rfl T.z_range (pa_cons pe_int pa_nil)) (fun _ _ _ _ _ => (pg_name (i := 0) nd_LG__law_k__law_at__law_base__law_big__law_odd rfl (Or.inl rfl) (.inr rfl))) (fun _ _ _ _ _ => pts_nil) (fun _ _ _ _ _ => (pe_op op_add_str (pe_op op_add_str (pe_slice sl_str (pv 2) po_none (po_some (pv 1))) (pe_ix ix_str (pv 3) (pe_op op_add (pv 4) (pv 0)) (fun _ _ => rfl))) (pe_slice sl_str (pv 2) (po_some (pv 1)) po_none))))))))))))), ?_⟩
    refine ⟨_, rfl, _, _, rfl, rfl, (by show (0 : Int) < 23; decide), ?_⟩
    refine ⟨_, rfl, _, _, rfl, rfl, ⟨by decide, by decide⟩, ?_⟩
    refine ⟨_, rfl, _, _, rfl, rfl, (by show (0 : Int) < 4; decide), rfl, _, rfl, ite2 (fun h0 => ?_) fun h0 => ?_⟩
    · refine ⟨4, rfl, by decide, by decide, fun l hl => ?_⟩
      refine comp_items (n := 4) 0 (fun k y _ => ∃ z, y = .str z ∧ isNameS z = true) gives_range (fun _ _ _ _ _ h => h) hp hl (by show 0 < 3; decide) (line1000 (by decide)) (fun τ' => ∃ v, τ' = [v, some (.str BIG), some (.int (c % 23))]) ⟨_, rfl⟩ ?_ ?_ ?_
      · rintro τ' v ⟨w, rfl⟩
        exact ⟨v, rfl⟩
      · rintro τ' k x H' R ⟨w, rfl⟩ hτ hit hk hs hp' hlne hR
        have ew : w = some x := by simpa using hτ
        subst ew hit
        obtain ⟨c2, hc2, hm⟩ := atI_some (xs := BIG.cps.toList) (i := c % 23) (by omega) (by rw [big_len]; omega)
        refine ⟨_, rfl, _, rfl, BIG, _, c2, rfl, rfl, big_line, hc2, _, rfl, _, _, rfl, rfl, .inl ⟨by decide, by decide⟩, _, _, rfl, rfl, _, rfl, _, _, rfl, rfl, ⟨by decide, by decide⟩, _, _, rfl, rfl, _, _, rfl, rfl, (by show 1 ≤ 1000; decide), ?_, ?_, hR _ _ (Same.refl _) hp' ⟨_, rfl, name_mul (big_letter hm) ?_ ?_⟩⟩ <;> omega
      · intro ys H' hy hP hs hp' hl'
        obtain ⟨zs, rfl, hz⟩ := strs_items hP
        exact q l zs H' (by rw [List.length_map] at hy; exact hy) hz hs hp' hl hl'
    · refine ⟨_, rfl, _, _, rfl, rfl, ⟨by decide, by decide⟩, _, _, rfl, rfl, (by show (0 : Int) < 8; decide), _, rfl, (in62 (by omega) (by omega)).1, (in62 (by omega) (by omega)).2, ?_⟩
      refine for_range (lo := 0) (n := (c / 23 / 4 % 8).toNat) (fun i σ H2 => H2 = H ∧ ∃ (z : Str) (v : Option V), σ = [some (.int (c / 23)), some (.str BIG), some (.int (c % 23)), v, some (.str z), none] ∧ z.length = i ∧ z.cps.toList.all letter = true) ⟨rfl, _, none, rfl, (by decide +kernel), (by decide +kernel)⟩ ?_ ?_
      · rintro i σ H2 hi ⟨rfl, z, v, rfl, hz, hzl⟩
        have hi8 : i < 8 := by omega
        obtain ⟨c2, hc2, hm⟩ := atI_some (xs := BIG.cps.toList) (i := c / 23 * (0 + (i : Int) + 3) / 7 % 26) (by omega) (by rw [big_len]; omega)
        refine ⟨_, rfl, _, rfl, _, rfl, _, rfl, _, _, rfl, rfl, _, _, rfl, rfl, .inl ⟨by omega, by omega⟩, _, _, rfl, rfl, ⟨by decide, by decide⟩, _, _, rfl, rfl, (by show (0 : Int) < 26; decide), BIG, _, c2, rfl, rfl, big_line, hc2, z, _, rfl, rfl, line1000 (by show z.length + 1 ≤ 1000; omega), ?_⟩
        refine ⟨rfl, z ++ ⟨#[c2]⟩, _, rfl, by rw [slen, hz]; rfl, ?_⟩
        rw [app_list, List.all_append, hzl]
        show (true && [c2].all letter) = true
        rw [List.all_cons, big_letter hm]
        rfl
      · rintro σ H2 ⟨rfl, z, v, rfl, hz, hzl⟩
        have hz7 : z.length ≤ 7 := by omega
        refine ⟨_, rfl, _, _, rfl, rfl, ⟨by decide, by decide⟩, _, rfl, z, rfl, line1000 (by omega), _, _, rfl, rfl, _, _, rfl, rfl, (by show (0 : Int) < (z.length : Int) + 1; omega), ?_⟩
        have a0 : 0 ≤ c / 23 / 32 % ((z.length : Int) + 1) := Int.emod_nonneg _ (by omega)
        have a1 : c / 23 / 32 % ((z.length : Int) + 1) < (z.length : Int) + 1 := Int.emod_lt_of_pos _ (by omega)
        obtain ⟨at_, hat⟩ : ∃ a, a = c / 23 / 32 % ((z.length : Int) + 1) := ⟨_, rfl⟩
        rw [← hat] at a0 a1
        refine ⟨4, rfl, by decide, by decide, fun l hl => ?_⟩
        refine comp_items (n := 4) 0 (fun k y _ => ∃ z, y = .str z ∧ isNameS z = true) gives_range (fun _ _ _ _ _ h => h) hp hl (by show 0 < 5; decide) (line1000 (by decide)) (fun τ' => ∃ v, τ' = [v, some (.int at_), some (.str z), some (.str BIG), some (.int (c % 23))]) ⟨none, by rw [hat]; rfl⟩ ?_ ?_ ?_
        · rintro τ' v ⟨w, rfl⟩
          exact ⟨v, rfl⟩
        · rintro τ' k x H' R ⟨w, rfl⟩ hτ hit hk hs hp' hlne hR
          have ew : w = some x := by simpa using hτ
          subst ew hit
          obtain ⟨c2, hc2, hm⟩ := atI_some (xs := BIG.cps.toList) (i := c % 23 + (0 + (k : Int))) (by omega) (by rw [big_len]; omega)
          have q1 := Txt.slice_le z none (some at_)
          have q2 := Txt.slice_le z (some at_) none
          refine ⟨_, rfl, _, rfl, _, rfl, z, rfl, line1000 (by omega), _, rfl, _, rfl, _, rfl, _, _, rfl, rfl, BIG, _, c2, rfl, rfl, big_line, hc2, _, _, rfl, rfl, line1000 (by show _ + 1 ≤ 1000; omega), _, rfl, _, rfl, _, rfl, z, rfl, line1000 (by omega), _, _, rfl, rfl, line1000 (by rw [slen]; show _ + 1 + _ ≤ 1000; omega), hR _ _ (Same.refl _) hp' ⟨_, rfl, name_cut hz7 hzl (big_letter hm) a0 (by omega)⟩⟩
        · intro ys H' hy hP hs hp' hl'
          obtain ⟨zs, rfl, hz⟩ := strs_items hP
          exact q l zs H' (by rw [List.length_map] at hy; exact hy) hz hs hp' hl hl'
theorem sc__law_worth : FnScope ["_law_cell"] ["_law_cell"] (defScope s__law_worth) := ⟨rfl, rfl, rfl, by decide +kernel, rfl, by decide +kernel, by decide +kernel⟩
theorem ok__law_worth {f : Addr} {fd : FuncData} (F : Fun K "_law_worth" "_law_worth" s__law_worth f fd) (T : Txt K mg C) : FnOk P w K mg base CX0 1 f fd ["_law_cell"] (spWorthL) := by
  refine F.ok sc__law_worth (fun vs H Q E h => ?_) (fun cdv A outer s H vs Q E hr h => ?_)
  · obtain ⟨c, rfl, _⟩ := h
    rfl
  · obtain ⟨c, rfl, q⟩ := h
    refine ⟨_, (pss_cons (ps_if (pt_cmpR op_eq (pe_op op_mod (pv 0) pe_int) pe_int (nomark _)) (pss_one (ps_ret (pe_op op_mod (pe_op op_fdiv (pv 0) pe_int) (pe_op op_add (pe_op op_pow pe_int pe_int) pe_int)))) pss_nil)
      (pss_one (ps_ret (pe_op op_mod (pe_op op_fdiv (pv 0) pe_int) pe_int)))), ?_⟩
    have big : (1000 : Int) ≤ 10 ^ 60 := by decide
    refine ⟨_, rfl, _, _, rfl, rfl, (by show (0 : Int) < 3; decide), rfl, _, rfl, ite2 (fun _ => ?_) fun _ => ?_⟩
    · refine ⟨_, rfl, _, _, rfl, rfl, ⟨by decide, by decide⟩, _, _, rfl, rfl, ⟨by decide, by decide, by decide⟩, _, _, rfl, rfl, _, _, rfl, rfl, (by show (0 : Int) < 10 ^ (60 : Int).toNat + 1; decide), q _ ?_ ?_⟩
      · exact Int.emod_nonneg _ (by decide)
      · exact Int.le_of_lt_add_one (Int.emod_lt_of_pos _ (by decide))
    · refine ⟨_, rfl, _, _, rfl, rfl, ⟨by decide, by decide⟩, _, _, rfl, rfl, (by show (0 : Int) < 4; decide), q _ ?_ ?_⟩
      · show 0 ≤ c / 3 % 4
        omega
      · show c / 3 % 4 ≤ 10 ^ 60
        omega
theorem sc__law_parts : FnScope ["_law_cell", "_law_menu", "_law_most", "_law_size", "_law_parts_here", "_law_k"] ["_law_cell", "_law_menu", "_law_most"] (defScope s__law_parts) := ⟨rfl, rfl, rfl, by decide +kernel, rfl, by decide +kernel, by decide +kernel⟩
theorem ok__law_parts {f : Addr} {fd : FuncData} (F : Fun K "_law_parts" "_law_parts" s__law_parts f fd) (T : Txt K mg C) : FnOk P w K mg base CX0 1 f fd ["_law_cell", "_law_menu", "_law_most"] (spParts) := by
  refine F.ok sc__law_parts (fun vs H Q E h => ?_) (fun cdv A outer s H vs Q E hr h => ?_)
  · obtain ⟨c, m, zs, n, rfl, _⟩ := h
    rfl
  · obtain ⟨c, m, zs, n, rfl, hm, z1, z2, n0, n6, hp, q⟩ := h
    refine ⟨_, (pss_cons (ps_set (i := 3) sc__law_parts.nd rfl (Or.inl rfl) (pe_op op_mod (pv 0) (pe_op op_add (pv 2) pe_int)))
      (pss_cons (ps_set (i := 0) sc__law_parts.nd rfl (Or.inl rfl) (pe_op op_fdiv (pv 0) (pe_op op_add (pv 2) pe_int)))
      (pss_cons (ps_set (i := 4) sc__law_parts.nd rfl (Or.inl rfl) (pe_lst pa_nil))
      (pss_cons (ps_for PassesOwn.never rfl (pi_range1 rfl T.z_range (pa_cons (pv 3) pa_nil)) (pg_name (i := 5) sc__law_parts.nd rfl (Or.inl rfl)) (pss_cons (ps_expr (pe_bmK K rfl PySem.F.plainAttrs_list PySem.F.slot_list_append PySem.F.type_list_append mt_append (pv 4) (pa_cons (pe_ix (ix_listK K rfl) (pv 1) (pe_op op_mod (pv 0) (pe_callB (call_len_seqK K rfl) (by rfl) T.z_len PyProof.Rows.Boot.«len» (pa_cons (pv 1) pa_nil))) (fun _ _ => rfl)) pa_nil)))
      (pss_one (ps_set (i := 0) sc__law_parts.nd rfl (Or.inl rfl) (pe_op op_fdiv (pv 0) (pe_callB (call_len_seqK K rfl) (by rfl) T.z_len PyProof.Rows.Boot.«len» (pa_cons (pv 1) pa_nil)))))))
      (pss_one (ps_ret (pe_callTy (call_tuple_ofK K rfl) (by rfl) T.z_tuple PyProof.Rows.Boot.«tuple» (pa_cons (pv 4) pa_nil)))))))), ?_⟩
    refine ⟨_, rfl, _, rfl, _, _, rfl, rfl, _, _, rfl, rfl, (by show (0 : Int) < n + 1; omega), ?_⟩
    refine ⟨_, rfl, _, rfl, _, _, rfl, rfl, _, _, rfl, rfl, ⟨by omega, by omega⟩, ?_⟩
    have s0 : 0 ≤ c % (n + 1) := Int.emod_nonneg _ (by omega)
    have s1 : c % (n + 1) < n + 1 := Int.emod_lt_of_pos _ (by omega)
    obtain ⟨sz, hsz⟩ : ∃ sz, sz = c % (n + 1) := ⟨_, rfl⟩
    rw [← hsz] at s0 s1
    refine ⟨Nat.zero_le _, fun l hl => ?_⟩
    refine ⟨_, rfl, sz, by rw [hsz], (in62 (by omega) (by omega)).1, (in62 (by omega) (by omega)).2, ?_⟩
    have nml : m ≠ l := ne_of_none hm hl
    refine for_range (lo := 0) (n := sz.toNat) (fun i σ H2 => ∃ (ps : List Str) (x : Int) (v : Option V), H2 = upd H l (.lst (ps.map V.str)) ∧ ps.length = i ∧ (∀ p ∈ ps, p ∈ zs) ∧ σ = [some (.int x), some (.ref m), some (.int n), some (.int sz), some (.ref l), v]) ⟨[], _, none, rfl, rfl, by simp, by rw [hsz]; rfl⟩ ?_ ?_
    · rintro i σ H2 hi ⟨ps, x, v, rfl, hpl, hpm, rfl⟩
      have hm2 : upd H l (.lst (ps.map V.str)) m = some (.lst (zs.map V.str)) := by rw [upd_ne nml]; exact hm
      have hzl : ((zs.map V.str).length : Int) = (zs.length : Int) := by rw [List.length_map]
      obtain ⟨y, hy, hmem⟩ := atI_some (xs := zs.map V.str) (i := x % ((zs.map V.str).length : Int)) (Int.emod_nonneg _ (by omega)) (Int.emod_lt_of_pos _ (by omega))
      obtain ⟨z, hz, rfl⟩ := List.mem_map.mp hmem
      refine ⟨_, rfl, .inl ⟨rfl, _, SqL.of upd_same⟩, _, rfl, _, rfl, _, rfl, m, _, rfl, .inl (SqL.of hm2), _, _, rfl, rfl, (by omega), m, _, _, _, rfl, rfl, SqL.of hm2, hy, l, _, .str z, rfl, rfl, upd_same, ?_, ?_⟩
      · rw [List.length_map]
        exact Nat.lt_of_lt_of_le (show _ < 1000 by omega) (line1000 (Nat.le_refl _))
      · refine ⟨_, rfl, _, rfl, m, zs.map V.str, rfl, .inl (SqL.of ?_), _, _, rfl, rfl, ⟨by show (0 : Int) < ((zs.map V.str).length : Int); omega, by show ((zs.map V.str).length : Int) < 1073741824; omega⟩, ps ++ [z], _, _, ?_, by rw [List.length_append, hpl]; rfl, ?_, rfl⟩
        · rw [upd_upd, upd_ne nml]; exact hm
        · rw [upd_upd, List.map_append]; rfl
        · intro p hp
          rcases List.mem_append.mp hp with h | h
          · exact hpm p h
          · rw [List.mem_singleton.mp h]; exact hz
    · rintro σ H2 ⟨ps, x, v, rfl, hpl, hpm, rfl⟩
      refine ⟨_, rfl, l, _, rfl, .inl ⟨SqL.of upd_same, fun t ht => ?_⟩⟩
      have s2 := Same.upd (o := .lst (ps.map V.str)) hl
      exact q t ps _ (by omega) hpm (s2.trans (Same.upd ht)) ((hp.upd rfl).upd rfl) (s2.free ht) upd_same
end
end FR


set_option linter.all false
set_option maxRecDepth 100000
set_option maxHeartbeats 4000000
namespace FR
open PySem L2
abbrev s__law_grammar : Stmt := top 35
abbrev s__law_shorts : Stmt := top 36
abbrev s__law_need : Stmt := top 37
abbrev s__law_open : Stmt := top 38
abbrev s__law_row : Stmt := top 39
abbrev s__law_read : Stmt := top 40
abbrev s__law_node : Stmt := top 42
abbrev s__law_heights : Stmt := top 43
abbrev s__law_tree : Stmt := top 44
abbrev s__law_low : Stmt := top 45
abbrev s__law_rule_stands : Stmt := top 46
theorem nd_LTa__law_sign : (["_law_sign"] : List Str).Nodup := by decide +kernel
theorem cut_strs (ss : List Str) (lo hi : Option Int) : ∃ zs : List Str, cutV (ss.map V.str) lo hi = zs.map V.str ∧ (∀ z ∈ zs, z ∈ ss) ∧ zs.length ≤ ss.length := by
  refine ⟨(ss.drop (HT.sIx (ss.map V.str).length 0 lo)).take (HT.sIx (ss.map V.str).length (ss.map V.str).length hi - HT.sIx (ss.map V.str).length 0 lo), ?_, fun z hz => List.mem_of_mem_drop (List.mem_of_mem_take hz), ?_⟩
  · unfold cutV
    rw [List.map_take, List.map_drop]
  · rw [List.length_take, List.length_drop]
    omega
theorem dens_revB {H : Hp} : ∀ {xs : List V} {ds : List D}, Dens H xs ds → Dens H xs.reverse ds.reverse
  | [], [], _ => .nil
  | [], _ :: _, h => by unfold Dens at h; exact h.elim
  | _ :: _, [], h => by unfold Dens at h; exact h.elim
  | x :: xs, d :: ds, h => by
    unfold Dens at h
    rw [List.reverse_cons, List.reverse_cons]
    exact (dens_revB h.2).append (.cons h.1 .nil)
theorem sign_isQ (c : Nat) : isQ (("'" : Str) ++ ⟨#[c]⟩) = true := by
  rw [isQ_code, sign_cps]
  rfl
theorem cut_takeB (xs : List V) (n : Nat) (h : n ≤ xs.length) : cutV xs none (some (n : Int)) = xs.take n := by
  unfold cutV
  have e2 : HT.sIx xs.length xs.length (some (n : Int)) = min n xs.length := HT.sIx_nat _ _ n
  rw [e2, Nat.min_eq_left h]
  rfl
theorem eqD_nil (bs : List Str) : eqD (.lst (bs.map D.str)) (.lst []) = decide (bs = []) := by
  cases bs with
  | nil => rfl
  | cons b bs => rfl
theorem putS_new {s : Sz} {z : Str} {n : Int} (h : ¬ z ∈ s.map (·.1)) : putS s z n = s ++ [(z, n)] := by
  induction s with
  | nil => rfl
  | cons p s ih =>
    rw [List.map_cons, List.mem_cons, not_or] at h
    unfold putS
    rw [if_neg (fun e => h.1 e.symm), ih h.2]
    rfl
def GramOk (g : Gram) : Prop := g ≠ [] ∧ (∀ r ∈ g, ∃ r' ∈ g, r'.1 = r.1 ∧ (∀ p ∈ r'.2.1, isQ p = true) ∧ r'.2.1.length ≤ 2) ∧ ∃ nm : List Str, nm.length = 4 ∧ (∀ r ∈ g, r.1 ∈ nm ∧ ∀ p ∈ r.2.1, isQ p = false → p ∈ nm) ∧ g.length ≤ 50
def spGram (K : PySem.W.Frag) : Sp := fun vs H Q _ => ∃ (a : Addr) (ns : List Int), vs = [.ref a] ∧ SqL K H a (ns.map V.int) ∧ ns.length ≤ 63 ∧ Plain H ∧
  ∀ l xs g H', okGram g = true → GramOk g → Same H H' → Plain H' → H l = none → H' l = some (.lst xs) → Dens H' xs (g.map ruleD) → Q (.ref l) H'

structure ShOk (g : Gram) (e : Sz) : Prop where
  nd : (e.map (·.1)).Nodup
  at_ : ∀ z v, look e z = some v → ∃ (k : Nat) (r : Rule), v = (k : Int) ∧ g[k]? = some r ∧ r.1 = z ∧ (∀ p ∈ r.2.1, isQ p = true) ∧ r.2.1.length ≤ 2
def spShorts : Sp := fun vs H Q _ => ∃ (l : Addr) (xs : List V) (g : Gram), vs = [.ref l] ∧ H l = some (.lst xs) ∧ Dens H xs (g.map ruleD) ∧ okGram g = true ∧ Plain H ∧
  ∀ d e H', ShOk g e → (∀ r ∈ g, (∀ p ∈ r.2.1, isQ p = true) → r.2.1.length ≤ 2 → r.1 ∈ e.map (·.1)) → Same H H' → Plain H' → H d = none → H' d = some (.dK (szD e)) → Q (.ref d) H'
def needN (ps : List Str) : Nat := (ps.map fun p => if isQ p = true then 1 else 2).sum
def spNeed : Sp := fun vs H Q _ => ∃ (p : Addr) (ps : List Str), vs = [.ref p] ∧ (H p = some (.lst (ps.map V.str)) ∨ H p = some (.tup (ps.map V.str))) ∧ (∀ x ∈ ps, isPartS x = true) ∧ ps.length ≤ 1000 ∧ Plain H ∧
  ∀ H', Same H H' → Plain H' → Q (.int (needN ps : Nat)) H'
theorem need_sum : ∀ ps : List Str, (ps.map fun p => if isQ p = true then (1 : Int) else 2).sum = (needN ps : Int)
  | [] => rfl
  | p :: ps => by
    unfold needN
    rw [List.map_cons, List.map_cons, List.sum_cons, List.sum_cons, need_sum ps]
    unfold needN
    split <;> omega
theorem comp_need {J : It} {H : Hp} {lb : Addr} {ps : List Str} {v : Option V} {Q : VK} (hJ : GivesG J ps.length H fun i x _ => (ps.map V.str)[i]? = some x) (hps : ∀ x ∈ ps, isPartS x = true) (h6 : ps.length ≤ 1000) (pl : Plain H) (hlb : H lb = none)
    (hq : ∀ H', Same H H' → Plain H' → H' lb = some (.lst ((ps.map fun p => if isQ p = true then (1 : Int) else 2).map V.int)) → Q (.ref lb) H') :
    CompOk J (gName 0) tYes (tOp (rI0 fun i j => .int (i + j)) (tC (.int 1)) (tCB (fun xs H Q => (∃ i, xs = [V.int i] ∧ Q (V.int i) H) ∨ ∃ k, xs = [V.bl k] ∧ Q (V.int (if k = true then 1 else 0)) H) (tCons (tOp rNe (tOp rIxS (tVar 0) (tC (.int 0))) (tC (.str "'"))) tNil))) Q lb [v] H := by
  refine comp_fm ps (fun x => some (.int (if isQ x = true then 1 else 2))) hJ pl hlb (line1000 h6) (fun τ' => ∃ v, τ' = [v]) ⟨_, rfl⟩ ?_ ?_
  · rintro τ' k x y H' Q1 Q2 ⟨v, rfl⟩ hx hit hs hp' hQ1 hQ2
    rw [List.getElem?_map, hx] at hit
    cases hit
    obtain ⟨c, hc, hlen, hdec⟩ := part_first (hps x (List.mem_of_getElem? hx))
    refine ⟨_, rfl, x, 0, c, rfl, rfl, line1000 (by omega), hc, rfl, .inr ⟨_, rfl, _, _, rfl, rfl, ?_⟩⟩
    rw [hdec]
    refine hQ1 _ _ _ ⟨_, rfl⟩ (Same.refl _) hp' ?_
    cases isQ x <;> rfl
  · intro H3 s3 p3 h3
    refine hq H3 s3 p3 ?_
    rw [h3, List.map_map, ← List.filterMap_eq_map]
    rfl
theorem addRule {H5 H : Hp} {l : Addr} {xs : List V} {g : Gram} (h : H l = some (.lst xs)) (hds : Dens (del H l) xs (g.map ruleD)) (s : Same H5 H) (hl : H5 l = none) (p : Plain H) {t1 t2 : Addr} (r : Rule) (h1 : H t1 = none) (h2 : upd H t1 (.tup (r.2.1.map V.str)) t2 = none) :
    ∃ Ha, upd (upd (upd H t1 (.tup (r.2.1.map V.str))) t2 (.tup [.str r.1, .ref t1, .int r.2.2])) l (.lst (xs ++ [.ref t2])) = Ha ∧ Ha l = some (.lst (xs ++ [.ref t2])) ∧ Dens (del Ha l) (xs ++ [.ref t2]) ((g ++ [r]).map ruleD) ∧ Same H5 Ha ∧ Plain Ha := by
  have u1 := Same.upd (o := .tup (r.2.1.map V.str)) h1
  have u2 := Same.upd (o := .tup [.str r.1, .ref t1, .int r.2.2]) h2
  have nt1 : t1 ≠ l := fun z => by rw [z, h] at h1; cases h1
  have nt2 : t2 ≠ l := fun z => by rw [z, u1 _ _ h] at h2; cases h2
  refine ⟨_, rfl, upd_same, ?_, (s.trans (u1.trans u2)).put hl, ((p.upd rfl).upd rfl).upd rfl⟩
  rw [del_upd, List.map_append]
  refine (hds.same ((u1.trans u2).del l)).append (.cons ?_ .nil)
  refine .tup (show del _ l t2 = some _ from ?_) (.cons (.str _) (.cons (.tup (show del _ l t1 = some _ from ?_) (Dens.strs r.2.1)) (.cons (.int _) .nil)))
  · rw [del_ne nt2]; exact upd_same
  · rw [del_ne nt1]; exact u2 _ _ upd_same
section
variable {P : Program} {w : World} {K : PySem.W.Frag} {mg : Str → Option Value} {base : Heap} {C : Adr}
theorem sc__law_grammar : FnScope ["_law_script", "_law_names_here", "_law_signs_here", "_law_way", "_law_heads", "_law_menu", "_law_rules", "_law_k", "_law_cell", "_law_parts_here"] ["_law_script"] (defScope s__law_grammar) := ⟨rfl, rfl, rfl, by decide +kernel, rfl, by decide +kernel, by decide +kernel⟩
theorem ok__law_grammar {f : Addr} {fd : FuncData} (F : Fun K "_law_grammar" "_law_grammar" s__law_grammar f fd) (T : Txt K mg C) (U__law_names : Used P w K mg CX0 1 "_law_names" ["_law_cell"] (spNames)) (U__law_mixed : Used P w K mg CX0 2 "_law_mixed" ["_law_script", "_law_k"] (spMixed K)) (U__law_parts : Used P w K mg CX0 1 "_law_parts" ["_law_cell", "_law_menu", "_law_most"] (spParts)) (U__law_signs : Used P w K mg CX0 1 "_law_signs" ["_law_cell"] (spSigns)) (U__law_worth : Used P w K mg CX0 1 "_law_worth" ["_law_cell"] (spWorthL)) (U__law_cell_at : Used P w K mg CX0 1 "_law_cell_at" ["_law_script", "_law_k"] (spCell K)) : FnOk P w K mg base CX0 3 f fd ["_law_script"] (spGram K) := by
  obtain ⟨f__law_names, fd__law_names, G__law_names, m__law_names, k__law_names, b__law_names⟩ := U__law_names.ok
  obtain ⟨f__law_mixed, fd__law_mixed, G__law_mixed, m__law_mixed, k__law_mixed, b__law_mixed⟩ := U__law_mixed.ok
  obtain ⟨f__law_parts, fd__law_parts, G__law_parts, m__law_parts, k__law_parts, b__law_parts⟩ := U__law_parts.ok
  obtain ⟨f__law_signs, fd__law_signs, G__law_signs, m__law_signs, k__law_signs, b__law_signs⟩ := U__law_signs.ok
  obtain ⟨f__law_worth, fd__law_worth, G__law_worth, m__law_worth, k__law_worth, b__law_worth⟩ := U__law_worth.ok
  obtain ⟨f__law_cell_at, fd__law_cell_at, G__law_cell_at, m__law_cell_at, k__law_cell_at, b__law_cell_at⟩ := U__law_cell_at.ok
  refine F.ok sc__law_grammar (fun vs H Q E h => ?_) (fun cdv A outer s H vs Q E hr h => ?_)
  · obtain ⟨a, ns, rfl, _⟩ := h
    rfl
  · obtain ⟨a, ns, rfl, hS, hn, hp, q⟩ := h
    refine ⟨_, (pss_cons (ps_set (i := 1) sc__law_grammar.nd rfl (Or.inl rfl) (pe_call (G__law_names base) (hr.mono (by decide)) (by rfl) m__law_names k__law_names b__law_names .nil pass0 (pa_cons (pe_call (G__law_mixed base) (hr.mono (by decide)) (by rfl) m__law_mixed k__law_mixed b__law_mixed .nil pass0 (pa_cons (pv 0) (pa_cons pe_int pa_nil))) pa_nil)))
      (pss_cons (ps_setC (N := ["_law_sign"]) (ρ := [none]) (cl := []) (i := 2) sc__law_grammar.nd rfl rfl rfl (CompScope.plain rfl (by decide +kernel) (by decide +kernel) rfl (by simp)) (pi_listK K rfl (pe_call (G__law_signs base) (hr.mono (by decide)) (by rfl) m__law_signs k__law_signs b__law_signs .nil pass0 (pa_cons (pe_call (G__law_mixed base) (hr.mono (by decide)) (by rfl) m__law_mixed k__law_mixed b__law_mixed .nil pass0 (pa_cons (pv 0) (pa_cons pe_int pa_nil))) pa_nil))) (fun _ _ _ _ _ => (pg_name (i := 0) nd_LTa__law_sign rfl (Or.inl rfl) (.inr rfl))) (fun _ _ _ _ _ => pts_nil) (fun _ _ _ _ _ => (pe_op op_add_str pe_str (pv 0))))
      (pss_cons (ps_set (i := 3) sc__law_grammar.nd rfl (Or.inl rfl) (pe_call (G__law_mixed base) (hr.mono (by decide)) (by rfl) m__law_mixed k__law_mixed b__law_mixed .nil pass0 (pa_cons (pv 0) (pa_cons pe_int pa_nil))))
      (pss_cons (ps_set (i := 4) sc__law_grammar.nd rfl (Or.inl rfl) (pe_slice (sl_listK K rfl) (pv 1) po_none (po_some (pe_op op_add pe_int (pe_op op_mod (pv 3) pe_int)))))
      (pss_cons (ps_set (i := 5) sc__law_grammar.nd rfl (Or.inl rfl) (pe_op op_cat (pe_op op_cat (pe_op op_cat (pe_op op_cat (pv 4) (pe_slice (sl_listK K rfl) (pv 2) po_none (po_some pe_int))) (pv 4)) (pv 2)) (pe_slice (sl_listK K rfl) (pv 1) (po_some pe_int) po_none)))
      (pss_cons (ps_set (i := 6) sc__law_grammar.nd rfl (Or.inl rfl) (pe_lst pa_nil))
      (pss_cons (ps_for PassesOwn.never rfl (pi_range1 rfl T.z_range (pa_cons (pe_callB (call_len_seqK K rfl) (by rfl) T.z_len PyProof.Rows.Boot.«len» (pa_cons (pv 4) pa_nil)) pa_nil)) (pg_name (i := 7) sc__law_grammar.nd rfl (Or.inl rfl)) (pss_cons (ps_set (i := 8) sc__law_grammar.nd rfl (Or.inl rfl) (pe_call (G__law_mixed base) (hr.mono (by decide)) (by rfl) m__law_mixed k__law_mixed b__law_mixed .nil pass0 (pa_cons (pv 0) (pa_cons (pe_op op_add pe_int (pv 7)) pa_nil))))
      (pss_one (ps_expr (pe_bmK K rfl PySem.F.plainAttrs_list PySem.F.slot_list_append PySem.F.type_list_append mt_append (pv 6) (pa_cons (pe_tup (pa_cons (pe_ix (ix_listK K rfl) (pv 4) (pv 7) (fun _ _ => rfl)) (pa_cons (pe_call (G__law_parts base) (hr.mono (by decide)) (by rfl) m__law_parts k__law_parts b__law_parts .nil pass0 (pa_cons (pv 8) (pa_cons (pv 2) (pa_cons pe_int pa_nil)))) (pa_cons (pe_call (G__law_worth base) (hr.mono (by decide)) (by rfl) m__law_worth k__law_worth b__law_worth .nil pass0 (pa_cons (pe_call (G__law_cell_at base) (hr.mono (by decide)) (by rfl) m__law_cell_at k__law_cell_at b__law_cell_at .nil pass0 (pa_cons (pv 0) (pa_cons (pe_op op_add pe_int (pv 7)) pa_nil))) pa_nil)) pa_nil)))) pa_nil))))))
      (pss_cons (ps_for PassesOwn.never rfl (pi_range1 rfl T.z_range (pa_cons (pe_op op_add pe_int (pe_op op_mod (pe_op op_fdiv (pv 3) pe_int) pe_int)) pa_nil)) (pg_name (i := 7) sc__law_grammar.nd rfl (Or.inl rfl)) (pss_cons (ps_set (i := 8) sc__law_grammar.nd rfl (Or.inl rfl) (pe_call (G__law_mixed base) (hr.mono (by decide)) (by rfl) m__law_mixed k__law_mixed b__law_mixed .nil pass0 (pa_cons (pv 0) (pa_cons (pe_op op_add pe_int (pv 7)) pa_nil))))
      (pss_cons (ps_set (i := 9) sc__law_grammar.nd rfl (Or.inl rfl) (pe_call (G__law_parts base) (hr.mono (by decide)) (by rfl) m__law_parts k__law_parts b__law_parts .nil pass0 (pa_cons (pe_op op_fdiv (pv 8) pe_int) (pa_cons (pv 5) (pa_cons (pe_op op_add pe_int (pe_op op_mul pe_int (pe_callTy call_int1 (by rfl) T.z_int PyProof.Rows.Boot.«int» (pa_cons (pe_cmpR op_eq (pe_op op_mod (pe_op op_fdiv (pv 3) pe_int) pe_int) (pv 7) (nomark _)) pa_nil)))) pa_nil)))))
      (pss_one (ps_expr (pe_bmK K rfl PySem.F.plainAttrs_list PySem.F.slot_list_append PySem.F.type_list_append mt_append (pv 6) (pa_cons (pe_tup (pa_cons (pe_ix (ix_listK K rfl) (pv 4) (pe_op op_mod (pe_op op_mod (pv 8) pe_int) (pe_callB (call_len_seqK K rfl) (by rfl) T.z_len PyProof.Rows.Boot.«len» (pa_cons (pv 4) pa_nil))) (fun _ _ => rfl)) (pa_cons (pv 9) (pa_cons (pe_call (G__law_worth base) (hr.mono (by decide)) (by rfl) m__law_worth k__law_worth b__law_worth .nil pass0 (pa_cons (pe_call (G__law_cell_at base) (hr.mono (by decide)) (by rfl) m__law_cell_at k__law_cell_at b__law_cell_at .nil pass0 (pa_cons (pv 0) (pa_cons (pe_op op_add pe_int (pv 7)) pa_nil))) pa_nil)) pa_nil)))) pa_nil)))))))
      (pss_cons (ps_if (pt_cmpR op_eq (pe_op op_mod (pe_op op_fdiv (pv 3) pe_int) pe_int) pe_int (nomark _)) (pss_cons (ps_expr (pe_bmK K rfl PySem.F.plainAttrs_list PySem.F.slot_list_append PySem.F.type_list_append mt_append (pv 6) (pa_cons (pe_tup (pa_cons (pe_ix (ix_listK K rfl) (pv 4) pe_int (fun _ _ => rfl)) (pa_cons (pe_tup (pa_cons (pe_ix (ix_listK K rfl) (pv 4) (pe_un un_neg pe_int) (fun _ _ => rfl)) pa_nil)) (pa_cons pe_int pa_nil)))) pa_nil)))
      (pss_one (ps_expr (pe_bmK K rfl PySem.F.plainAttrs_list PySem.F.slot_list_append PySem.F.type_list_append mt_append (pv 6) (pa_cons (pe_tup (pa_cons (pe_ix (ix_listK K rfl) (pv 4) (pe_un un_neg pe_int) (fun _ _ => rfl)) (pa_cons (pe_tup (pa_cons (pe_ix (ix_listK K rfl) (pv 4) pe_int (fun _ _ => rfl)) pa_nil)) (pa_cons pe_int pa_nil)))) pa_nil))))) pss_nil)
      (pss_cons (ps_if (pt_cmpR op_eq (pe_op op_mod (pe_op op_fdiv (pv 3) pe_int) pe_int) pe_int (nomark _)) (pss_one (ps_expr (pe_bm0K K rfl PySem.F.plainAttrs_list PySem.F.slot_list_reverse PySem.F.type_list_reverse mt_reverse (pv 6)))) pss_nil)
      (pss_one (ps_ret (pv 6))))))))))))), ?_⟩
    refine ⟨_, rfl, a, ns, 0, rfl, hS, by decide, by decide, fun v0 a0 b0 => ⟨_, rfl, a0, by omega, hp, fun ln nm H1 n4 nN s1 p1 hln h1 => ?_⟩⟩
    refine ⟨_, rfl, a, ns, 1, rfl, s1.seq hS, by decide, by decide, fun v1 _ _ => ⟨_, rfl, p1, fun lg c1 c2 c3 H2 g1 g2 g3 s2 p2 hlg h2 => ⟨lg, rfl, ⟨_, SqL.of h2⟩, fun ls hls => ?_⟩⟩⟩
    refine comp_items (n := 3) 0 (fun k y _ => ∃ z, y = .str z ∧ (isPartS z = true ∧ isQ z = true)) (gives_list (SqL.of (K := K) h2)) (fun _ _ _ _ _ h => h) p2 hls Nat.zero_lt_one (line1000 (by decide)) (fun τ' => 0 < τ'.length) Nat.zero_lt_one (fun τ' v h => by rw [List.length_set]; exact h) ?_ ?_
    · intro τ' k y H' R _ hτ hit hk hs hp' hlne hR
      obtain ⟨c, hc, rfl⟩ : ∃ c : Nat, good c = true ∧ y = .str ⟨#[c]⟩ := by
        have hm := List.mem_of_getElem? hit
        simp only [List.mem_cons, List.not_mem_nil, or_false] at hm
        rcases hm with rfl | rfl | rfl
        · exact ⟨c1, g1, rfl⟩
        · exact ⟨c2, g2, rfl⟩
        · exact ⟨c3, g3, rfl⟩
      exact ⟨_, hτ, "'", _, rfl, rfl, line1000 (by show 1 + 1 ≤ 1000; decide), hR _ _ (Same.refl _) hp' ⟨_, rfl, sign_part hc, sign_isQ c⟩⟩
    intro ys H3 hy hP s3 p3 h3
    obtain ⟨sg, rfl, hsg⟩ := strs_items hP
    have sg3 : sg.length = 3 := by rw [List.length_map] at hy; exact hy
    have s13 := s2.trans s3
    have h13 := s13 _ _ h1
    have s03 := s1.trans s13
    refine ⟨_, rfl, a, ns, 2, rfl, s03.seq hS, by decide, by decide, fun way wa wb => ?_⟩
    obtain ⟨hn', hhn, hn1, hn3⟩ : ∃ n : Nat, 1 + way % 3 = (n : Int) ∧ 1 ≤ n ∧ n ≤ 3 := ⟨(1 + way % 3).toNat, by omega, by omega, by omega⟩
    refine ⟨_, rfl, _, rfl, _, _, rfl, rfl, (show (0 : Int) < 3 by decide), _, _, rfl, rfl, _, rfl, ln, _, rfl, SqL.of h13, fun lh hlh => ?_⟩
    have eh : cutV (nm.map V.str) none (some (1 + way % 3)) = (nm.take hn').map V.str := by rw [hhn, cut_takeB _ _ (by rw [List.length_map]; omega), List.map_take]
    rw [eh]
    obtain ⟨hs, ehs⟩ : ∃ hs, nm.take hn' = hs := ⟨_, rfl⟩
    have hsl : hs.length = hn' := by rw [← ehs, List.length_take]; omega
    have hsn : ∀ z ∈ hs, z ∈ nm := fun z hz => by rw [← ehs] at hz; exact List.mem_of_mem_take hz
    rw [ehs]
    have s4 := Same.upd (o := .lst (hs.map V.str)) hlh
    have h4 : upd H3 lh (.lst (hs.map V.str)) lh = some (.lst (hs.map V.str)) := upd_same
    have p4 : Plain (upd H3 lh (.lst (hs.map V.str))) := p3.upd rfl
    revert s4 h4 p4
    generalize upd H3 lh (.lst (hs.map V.str)) = H4
    intro s4 h4 p4
    have hS4 := (s03.trans s4).seq hS
    have hln4 := s4 _ _ h13
    have hls4 := s4 _ _ h3
    refine ⟨_, rfl, _, rfl, 2, rfl, ls, _, rfl, SqL.of hls4, fun q1 hq1 => ?_⟩
    obtain ⟨z1, ez1, hz1, lz1⟩ := cut_strs sg none (some 2)
    rw [ez1]
    have t1 := Same.upd (o := .lst (z1.map V.str)) hq1
    refine ⟨lh, q1, _, _, rfl, rfl, t1 _ _ h4, upd_same, line1000 (by rw [List.length_map, List.length_map]; omega), fun q2 hq2 => ?_⟩
    rw [← List.map_append]
    have t2 := t1.trans (Same.upd (o := .lst ((hs ++ z1).map V.str)) hq2)
    refine ⟨_, rfl, q2, lh, _, _, rfl, rfl, upd_same, t2 _ _ h4, line1000 (by simp only [List.length_map, List.length_append]; omega), fun q3 hq3 => ?_⟩
    rw [← List.map_append]
    have t3 := t2.trans (Same.upd (o := .lst ((hs ++ z1 ++ hs).map V.str)) hq3)
    refine ⟨_, rfl, q3, ls, _, _, rfl, rfl, upd_same, t3 _ _ hls4, line1000 (by simp only [List.length_map, List.length_append]; omega), fun q4 hq4 => ?_⟩
    rw [← List.map_append]
    have t4 := t3.trans (Same.upd (o := .lst ((hs ++ z1 ++ hs ++ sg).map V.str)) hq4)
    have w4 : ∀ {Hx : Hp}, upd Hx q4 (.lst ((hs ++ z1 ++ hs ++ sg).map V.str)) q4 = some (.lst ((hs ++ z1 ++ hs ++ sg).map V.str)) := upd_same
    refine ⟨_, rfl, 3, rfl, ln, _, rfl, SqL.of (t4 _ _ hln4), fun q5 hq5 => ?_⟩
    obtain ⟨z5, ez5, hz5, lz5⟩ := cut_strs nm (some 3) none
    rw [ez5]
    have u5 := Same.upd (o := .lst (z5.map V.str)) hq5
    have t5 := t4.trans u5
    refine ⟨q4, q5, _, _, rfl, rfl, u5 _ _ w4, upd_same, line1000 (by simp only [List.length_map, List.length_append]; omega), fun lm hlm => ?_⟩
    rw [← List.map_append]
    obtain ⟨menu, hmn⟩ : ∃ M, hs ++ z1 ++ hs ++ sg ++ z5 = M := ⟨_, rfl⟩
    have hm0 : ∀ p ∈ menu, isPartS p = true ∧ (isQ p = false → p ∈ nm) := fun p hp => by
      rw [← hmn] at hp
      rcases List.mem_append.mp hp with hp | hp
      · rcases List.mem_append.mp hp with hp | hp
        · rcases List.mem_append.mp hp with hp | hp
          · rcases List.mem_append.mp hp with hp | hp
            · exact ⟨name_part (nN p (hsn p hp)), fun _ => hsn p hp⟩
            · have := hsg p (hz1 p hp)
              exact ⟨this.1, fun h => by rw [this.2] at h; cases h⟩
          · exact ⟨name_part (nN p (hsn p hp)), fun _ => hsn p hp⟩
        · have := hsg p hp
          exact ⟨this.1, fun h => by rw [this.2] at h; cases h⟩
      · exact ⟨name_part (nN p (hz5 p hp)), fun _ => hz5 p hp⟩
    have hml : 1 ≤ menu.length ∧ menu.length ≤ 100 := by
      rw [← hmn]
      simp only [List.length_append]
      omega
    rw [hmn]
    have s5 := t5.trans (Same.upd (o := .lst (menu.map V.str)) hlm)
    have m5 : ∀ {Hx : Hp}, upd Hx lm (.lst (menu.map V.str)) lm = some (.lst (menu.map V.str)) := upd_same
    obtain ⟨H5, e5⟩ : ∃ H5, upd (upd (upd (upd (upd (upd H4 q1 (.lst (z1.map V.str))) q2 (.lst ((hs ++ z1).map V.str))) q3 (.lst ((hs ++ z1 ++ hs).map V.str))) q4 (.lst ((hs ++ z1 ++ hs ++ sg).map V.str))) q5 (.lst (z5.map V.str))) lm (.lst (menu.map V.str)) = H5 := ⟨_, rfl⟩
    have p5 : Plain H5 := by rw [← e5]; exact (((((p4.upd rfl).upd rfl).upd rfl).upd rfl).upd rfl).upd rfl
    rw [e5] at s5
    have hm5 : H5 lm = some (.lst (menu.map V.str)) := by rw [← e5]; exact m5
    rw [e5]
    have hS5 := s5.seq hS4
    have hls5 := s5 _ _ hls4
    have hlh5 := s5 _ _ h4
    have s05 := (s03.trans s4).trans s5
    clear t1 t2 t3 t4 u5 t5 m5 w4 e5 hlm hq5 hq4 hq3 hq2 hq1
    refine ⟨Nat.zero_le _, fun l hl => ?_⟩
    have sl := Same.upd (o := .lst []) hl
    refine ⟨_, rfl, lh, _, rfl, .inl (SqL.of (sl _ _ hlh5)), (hs.length : Int), by rw [List.length_map], (in62 (by omega) (by omega)).1, (in62 (by omega) (by omega)).2, ?_⟩
    refine for_range (lo := 0) (n := ((hs.length : Nat) : Int).toNat) (fun i σ H6 => ∃ (g : Gram) (xs : List V) (v7 v8 : Option V), σ = [some (.ref a), some (.ref ln), some (.ref ls), some (.int way), some (.ref lh), some (.ref lm), some (.ref l), v7, v8, none] ∧ H6 l = some (.lst xs) ∧ Dens (del H6 l) xs (g.map ruleD) ∧ g.length = i ∧ g.all okRule = true ∧ Same H5 H6 ∧ Plain H6 ∧
        ∀ (j : Nat) r, g[j]? = some r → hs[j]? = some r.1 ∧ (∀ p ∈ r.2.1, isQ p = true) ∧ r.2.1.length ≤ 2)
      ⟨[], [], none, none, rfl, upd_same, .nil, rfl, rfl, sl, p5.upd rfl, (fun j r hr => nomatch hr)⟩ ?_ ?_
    · rintro i σ H6 hi ⟨g, xs, v7, v8, rfl, h6, hds, hgl, hgo, s6, p6, hfc⟩
      have hxl : xs.length = i := by rw [hds.len, List.length_map, hgl]
      have hih : i < hs.length := by omega
      refine ⟨_, rfl, _, rfl, _, _, rfl, rfl, a, ns, _, rfl, s6.seq hS5, by omega, by omega, fun v a1 b1 => ?_⟩
      have hy1 : atI (hs.map V.str) (0 + (i : Int)) = some (.str hs[i]) := by rw [Int.zero_add]; exact atI_nat (by rw [List.getElem?_map, List.getElem?_eq_getElem hih]; rfl)
      refine ⟨_, rfl, .inl ⟨rfl, _, SqL.of h6⟩, _, rfl, _, rfl, lh, _, _, _, rfl, rfl, SqL.of (s6 _ _ hlh5), hy1, ?_⟩
      refine ⟨_, rfl, _, rfl, _, ls, sg, 2, rfl, s6 _ _ hls5, by omega, by omega, by decide, by decide, p6, fun t ps H7 hps hpm s7 p7 ht0 ht => ?_⟩
      refine ⟨_, rfl, _, rfl, _, _, rfl, rfl, a, ns, _, rfl, (s6.trans s7).seq hS5, by omega, fun v2 => ⟨_, rfl, fun wz w0 w1 => ⟨line1000 (by show 3 ≤ 1000; decide), fun tt htt => ?_⟩⟩⟩
      have t8 := Same.upd (o := .tup [.str hs[i], .ref t, .int wz]) htt
      have ntl : tt ≠ l := fun z => by
        have := s7 _ _ h6
        rw [z, this] at htt
        cases htt
      have ntt : t ≠ l := fun z => by
        rw [z, h6] at ht0
        cases ht0
      refine ⟨l, xs, _, rfl, rfl, (s7.trans t8) _ _ h6, Nat.lt_of_lt_of_le (show xs.length < 1000 by omega) (line1000 (Nat.le_refl _)), ?_⟩
      refine ⟨g ++ [(hs[i], ps, wz)], xs ++ [.ref tt], _, _, rfl, upd_same, ?_, by rw [List.length_append, hgl]; rfl, ?_, ((s6.trans s7).trans t8).put hl, (p7.upd rfl).upd rfl, fun j r hr => ?_⟩
      · rw [del_upd, List.map_append]
        refine (hds.same ((s7.trans t8).del l)).append (.cons ?_ .nil)
        refine .tup (show del _ l tt = some _ from ?_) (.cons (.str _) (.cons (.tup (show del _ l t = some _ from ?_) (Dens.strs ps)) (.cons (.int _) .nil)))
        · rw [del_ne ntl]; exact upd_same
        · rw [del_ne ntt]; exact t8 _ _ ht
      · rw [List.all_append, hgo]
        show (true && [((hs[i], ps, wz) : Rule)].all okRule) = true
        rw [List.all_cons, okRule_of (r := (hs[i], ps, wz)) (nN _ (hsn _ (List.getElem_mem hih))) (by show ps.length ≤ 6; omega) (fun p hp => (hsg p (hpm p hp)).1) w0 w1]
        rfl
      · by_cases hj : j < g.length
        · rw [List.getElem?_append_left hj] at hr
          exact hfc j r hr
        · rw [List.getElem?_append_right (by omega)] at hr
          have hj0 : j = i := by
            have := (List.getElem?_eq_some_iff.mp hr).1
            simp only [List.length_cons, List.length_nil] at this
            omega
          subst hj0
          rw [hgl, Nat.sub_self] at hr
          cases hr
          exact ⟨List.getElem?_eq_getElem hih, fun p hp => (hsg p (hpm p hp)).2, by show ps.length ≤ 2; omega⟩
    · rintro σ H6 ⟨g, xs, v7, v8, rfl, h6, hds, hgl, hgo, s6, p6, hfc⟩
      have hgl : g.length = hs.length := by omega
      have hshort : ∀ z ∈ hs, ∃ r ∈ g, r.1 = z ∧ (∀ p ∈ r.2.1, isQ p = true) ∧ r.2.1.length ≤ 2 := fun z hz => by
        obtain ⟨j, hj, ez⟩ := List.mem_iff_getElem.mp hz
        have hjg : j < g.length := by omega
        obtain ⟨e1, e2, e3⟩ := hfc j g[j] (List.getElem?_eq_getElem hjg)
        refine ⟨g[j], List.getElem_mem hjg, ?_, e2, e3⟩
        rw [List.getElem?_eq_getElem hj, ez] at e1
        exact (Option.some.inj e1).symm
      have hgen : ∀ r ∈ g, r.1 ∈ hs ∧ ∀ p ∈ r.2.1, isQ p = false → p ∈ nm := fun r hr => by
        obtain ⟨j, hj, ez⟩ := List.mem_iff_getElem.mp hr
        obtain ⟨e1, e2, e3⟩ := hfc j r (by rw [List.getElem?_eq_getElem hj, ez])
        exact ⟨List.mem_of_getElem? e1, fun p hp h => by rw [e2 p hp] at h; cases h⟩
      obtain ⟨N, hN, N0, N1⟩ : ∃ N : Int, 1 + way / 3 % 4 = N ∧ 0 ≤ N ∧ N ≤ 4 := ⟨_, rfl, by omega, by omega⟩
      refine ⟨_, rfl, _, _, rfl, rfl, ⟨by decide, by decide⟩, _, _, rfl, rfl, (show (0 : Int) < 4 by decide), _, _, rfl, rfl, N, by rw [← hN], (in62 (by omega) (by omega)).1, (in62 (by omega) (by omega)).2, ?_⟩
      refine for_range (lo := 0) (n := N.toNat) (fun i σ H7 => ∃ (g' : Gram) (xs' : List V) (v7 v8 v9 : Option V), σ = [some (.ref a), some (.ref ln), some (.ref ls), some (.int way), some (.ref lh), some (.ref lm), some (.ref l), v7, v8, v9] ∧ H7 l = some (.lst xs') ∧ Dens (del H7 l) xs' (g'.map ruleD) ∧ g'.length = hs.length + i ∧ g'.all okRule = true ∧ Same H5 H7 ∧ Plain H7 ∧
          (∀ r ∈ g, r ∈ g') ∧ ∀ r ∈ g', r.1 ∈ hs ∧ ∀ p ∈ r.2.1, isQ p = false → p ∈ nm)
        ⟨g, xs, _, _, _, rfl, h6, hds, hgl, hgo, s6, p6, (fun r hr => hr), hgen⟩ ?_ ?_
      · rintro i σ H7 hi ⟨g', xs', v7, v8, v9, rfl, h7, hds', hgl', hgo', s7, p7, hsub, hgen'⟩
        have hxl : xs'.length = hs.length + i := by rw [hds'.len, List.length_map, hgl']
        refine ⟨_, rfl, _, rfl, _, _, rfl, rfl, a, ns, _, rfl, s7.seq hS5, by omega, by omega, fun v a1 b1 => ?_⟩
        obtain ⟨mo, emo, mo0, mo1⟩ : ∃ mo : Int, 3 + 3 * (if decide (V.int (way / 24 % 5) = V.int (0 + (i : Int))) = true then 1 else 0) = mo ∧ 0 ≤ mo ∧ mo ≤ 6 := ⟨_, rfl, by split <;> decide, by split <;> decide⟩
        refine ⟨_, rfl, _, _, rfl, rfl, ⟨by decide, by decide⟩, _, rfl, _, rfl, _, _, rfl, rfl, ⟨by decide, by decide⟩, _, _, rfl, rfl, (show (0 : Int) < 5 by decide), _, rfl, rfl, .inr ⟨_, rfl, _, _, rfl, rfl, .inl ⟨by decide, by decide⟩, _, _, rfl, rfl, v / 3, lm, menu, mo, by rw [← emo]; rfl, s7 _ _ hm5, hml.1, hml.2, mo0, mo1, p7, fun t ps H8 hps hpm s8 p8 ht0 ht => ?_⟩⟩
        obtain ⟨y, hy1, hm1⟩ := atI_some (xs := hs.map V.str) (i := v % 3 % ((hs.map V.str).length : Nat)) (Int.emod_nonneg _ (by rw [List.length_map]; omega)) (Int.emod_lt_of_pos _ (by rw [List.length_map]; omega))
        obtain ⟨hd, hhd, rfl⟩ := List.mem_map.mp hm1
        have sq8 : SqL K H8 lh (hs.map V.str) := SqL.of ((s7.trans s8) _ _ hlh5)
        refine ⟨_, rfl, .inl ⟨rfl, _, SqL.of (s8 _ _ h7)⟩, _, rfl, _, rfl, _, _, rfl, rfl, (show (0 : Int) < 3 by decide), _, rfl, lh, _, rfl, .inl sq8, _, _, rfl, rfl, (by rw [List.length_map]; show (0 : Int) < _; omega), lh, _, _, _, rfl, rfl, sq8, hy1, ?_⟩
        refine ⟨_, rfl, _, rfl, _, rfl, _, _, rfl, rfl, a, ns, _, rfl, (s7.trans s8).seq hS5, by omega, fun v2 => ⟨_, rfl, fun wz w0 w1 => ⟨line1000 (by show 3 ≤ 1000; decide), fun tt htt => ?_⟩⟩⟩
        have t8 := Same.upd (o := .tup [.str hd, .ref t, .int wz]) htt
        have ntl : tt ≠ l := fun z => by
          have := s8 _ _ h7
          rw [z, this] at htt
          cases htt
        have ntt : t ≠ l := fun z => by
          rw [z, h7] at ht0
          cases ht0
        refine ⟨l, xs', _, rfl, rfl, (s8.trans t8) _ _ h7, Nat.lt_of_lt_of_le (show xs'.length < 1000 by omega) (line1000 (Nat.le_refl _)), ?_⟩
        refine ⟨g' ++ [(hd, ps, wz)], xs' ++ [.ref tt], _, _, _, rfl, upd_same, ?_, by rw [List.length_append, hgl']; rfl, ?_, ((s7.trans s8).trans t8).put hl, (p8.upd rfl).upd rfl, fun r hr => List.mem_append_left _ (hsub r hr), fun r hr => ?_⟩
        · rw [del_upd, List.map_append]
          refine (hds'.same ((s8.trans t8).del l)).append (.cons ?_ .nil)
          refine .tup (show del _ l tt = some _ from ?_) (.cons (.str _) (.cons (.tup (show del _ l t = some _ from ?_) (Dens.strs ps)) (.cons (.int _) .nil)))
          · rw [del_ne ntl]; exact upd_same
          · rw [del_ne ntt]; exact t8 _ _ ht
        · rw [List.all_append, hgo']
          show (true && [((hd, ps, wz) : Rule)].all okRule) = true
          rw [List.all_cons, okRule_of (r := (hd, ps, wz)) (nN _ (hsn _ hhd)) (by show ps.length ≤ 6; omega) (fun p hp => (hm0 p (hpm p hp)).1) w0 w1]
          rfl
        · rcases List.mem_append.mp hr with hr | hr
          · exact hgen' r hr
          · rw [List.mem_singleton.mp hr]
            exact ⟨hhd, fun p hp h => (hm0 p (hpm p hp)).2 h⟩
      · rintro σ H7 ⟨g0, xs0, v7, v8, v9, rfl, h70, hds0, hgl0, hgo0, s70, p70, hsub0, hgen0⟩
        dsimp only
        refine seq_rest (t := tIfS _ _ _) (fun σ' H7 => ∃ (g' : Gram) (xs' : List V), σ' = [some (.ref a), some (.ref ln), some (.ref ls), some (.int way), some (.ref lh), some (.ref lm), some (.ref l), v7, v8, v9] ∧ H7 l = some (.lst xs') ∧ Dens (del H7 l) xs' (g'.map ruleD) ∧ (hs.length ≤ g'.length ∧ g'.length ≤ 9) ∧ g'.all okRule = true ∧ Same H5 H7 ∧ Plain H7 ∧ (∀ r ∈ g, r ∈ g') ∧ ∀ r ∈ g', r.1 ∈ hs ∧ ∀ p ∈ r.2.1, isQ p = false → p ∈ nm) ?_ fun restK => ?_
        · rintro σ' H7 ⟨g', xs', rfl, h7, hds', hgl', hgo', s7, p7, hsub, hgen'⟩
          have hok : okGram g' = true := by
            unfold okGram
            rw [hgo', Bool.and_true]
            exact decide_eq_true (by omega)
          have hgk : GramOk g' := ⟨fun h => by rw [h] at hgl'; simp only [List.length_nil] at hgl'; omega, fun r hr => by
            obtain ⟨r', hr', q⟩ := hshort r.1 (hgen' r hr).1
            exact ⟨r', hsub r' hr', q⟩, nm, n4, fun r hr => ⟨hsn _ (hgen' r hr).1, (hgen' r hr).2⟩, by omega⟩
          refine ⟨_, rfl, _, _, rfl, rfl, ⟨by decide, by decide⟩, _, _, rfl, rfl, (show (0 : Int) < 2 by decide), rfl, _, rfl, ?_⟩
          refine ite2 (fun _ => ?_) fun _ => ?_
          · refine ⟨_, rfl, .inl ⟨rfl, _, SqL.of h7⟩, l, xs', rfl, rfl, h7, ?_⟩
            refine ⟨_, rfl, q l xs'.reverse g'.reverse _ ?_ ⟨fun h => hgk.1 (List.reverse_eq_nil_iff.mp h), fun r hr => ?_, nm, n4, fun r hr => ⟨hsn _ (hgen' r (List.mem_reverse.mp hr)).1, (hgen' r (List.mem_reverse.mp hr)).2⟩, by rw [List.length_reverse]; omega⟩ ((s05.trans s7).put (s05.free hl)) (p7.upd rfl) (s05.free hl) upd_same ?_⟩
            · unfold okGram at hok ⊢
              rw [Bool.and_eq_true] at hok
              rw [List.length_reverse, List.all_reverse, hok.1, hok.2]
              rfl
            · obtain ⟨r', hr', q⟩ := hgk.2.1 r (List.mem_reverse.mp hr)
              exact ⟨r', List.mem_reverse.mpr hr', q⟩
            · rw [List.map_reverse]
              refine dens_revB (Dens.same ?_ hds')
              intro b o e
              by_cases hb : b = l
              · rw [hb, del_self] at e
                cases e
              · rw [del_ne hb] at e
                rw [upd_ne hb]
                exact e
          · exact ⟨_, rfl, q l xs' g' H7 hok hgk (s05.trans s7) p7 (s05.free hl) h7 (hds'.same (del_same _ _))⟩
        · refine ⟨_, rfl, _, _, rfl, rfl, ⟨by decide, by decide⟩, _, _, rfl, rfl, (show (0 : Int) < 3 by decide), rfl, _, rfl, ite2 (fun _ => ?_) fun _ => ?_⟩
          · have hne : 0 < hs.length := by omega
            have e0 : hs[0]? = some hs[0] := List.getElem?_eq_getElem hne
            obtain ⟨hf, ehf⟩ : ∃ hf, hs[0] = hf := ⟨_, rfl⟩
            rw [ehf] at e0
            have hfm : hf ∈ hs := List.mem_of_getElem? e0
            obtain ⟨hs0, hz, ehz⟩ : ∃ hs0 hz, hs = hs0 ++ [hz] := by
              rcases last_or hs with z | z
              · rw [z] at hne
                cases hne
              · exact z
            have hzm : hz ∈ hs := by rw [ehz]; simp
            have a0 : atI (hs.map V.str) 0 = some (.str hf) := atI_nat (j := 0) (by rw [List.getElem?_map, e0]; rfl)
            have am : atI (hs.map V.str) (-1) = some (.str hz) := by rw [ehz, List.map_append]; exact atI_last _ _
            have okR : ∀ x y : Str, x ∈ hs → y ∈ hs → ∀ w : Int, 0 ≤ w → w ≤ 1 → okRule (x, [y], w) = true := fun x y hx hy w w0 w1 => okRule_of (r := (x, [y], w)) (nN _ (hsn _ hx)) (by show 1 ≤ 6; decide) (fun p hp => by cases List.mem_singleton.mp hp; exact name_part (nN _ (hsn _ hy))) w0 (by show w ≤ 10 ^ 60; exact Int.le_trans w1 (by decide))
            have hxl0 : xs0.length ≤ 7 := by rw [hds0.len, List.length_map, hgl0]; omega
            have sqh := SqL.of (K := K) (s70 _ _ hlh5)
            refine ⟨_, rfl, .inl ⟨rfl, _, SqL.of h70⟩, _, rfl, lh, _, 0, _, rfl, rfl, sqh, a0, _, rfl, 1, rfl, lh, _, _, _, rfl, rfl, sqh, am, line1000 (by show 1 ≤ 1000; decide), fun t1 ht1 => ⟨line1000 (by show 3 ≤ 1000; decide), fun t2 ht2 => ?_⟩⟩
            refine ⟨l, xs0, _, rfl, rfl, ((Same.upd ht1).trans (Same.upd ht2)) _ _ h70, Nat.lt_of_lt_of_le (show xs0.length < 1000 by omega) (line1000 (Nat.le_refl _)), ?_⟩
            obtain ⟨Ha, eHa, ha, hdsa, sa, pa⟩ := addRule h70 hds0 s70 hl p70 (hf, [hz], 0) ht1 ht2
            have eHa : upd (upd (upd H7 t1 (.tup [.str hz])) t2 (.tup [.str hf, .ref t1, .int 0])) l (.lst (xs0 ++ [.ref t2])) = Ha := eHa
            dsimp only
            rw [eHa]
            have sqa := SqL.of (K := K) (sa _ _ hlh5)
            refine ⟨_, rfl, .inl ⟨rfl, _, SqL.of ha⟩, _, rfl, 1, rfl, lh, _, _, _, rfl, rfl, sqa, am, _, rfl, lh, _, 0, _, rfl, rfl, sqa, a0, line1000 (by show 1 ≤ 1000; decide), fun t3 ht3 => ⟨line1000 (by show 3 ≤ 1000; decide), fun t4 ht4 => ?_⟩⟩
            refine ⟨l, _, _, rfl, rfl, ((Same.upd ht3).trans (Same.upd ht4)) _ _ ha, Nat.lt_of_lt_of_le (show (xs0 ++ [V.ref t2]).length < 1000 by rw [List.length_append]; show _ + 1 < 1000; omega) (line1000 (Nat.le_refl _)), ?_⟩
            obtain ⟨Hb, eHb, hb, hdsb, sb, pb⟩ := addRule ha hdsa sa hl pa (hz, [hf], 1) ht3 ht4
            have eHb : upd (upd (upd Ha t3 (.tup [.str hf])) t4 (.tup [.str hz, .ref t3, .int 1])) l (.lst (xs0 ++ [.ref t2] ++ [.ref t4])) = Hb := eHb
            dsimp only
            rw [eHb]
            refine restK _ _ ⟨g0 ++ [(hf, [hz], 0)] ++ [(hz, [hf], 1)], _, rfl, hb, hdsb, ⟨by simp only [List.length_append, List.length_cons, List.length_nil]; omega, by simp only [List.length_append, List.length_cons, List.length_nil]; omega⟩, ?_, sb, pb, fun r hr => List.mem_append_left _ (List.mem_append_left _ (hsub0 r hr)), fun r hr => ?_⟩
            · rw [List.all_append, List.all_append, hgo0, List.all_cons, List.all_cons, okR hf hz hfm hzm 0 (by decide) (by decide), okR hz hf hzm hfm 1 (by decide) (by decide)]
              rfl
            · rcases List.mem_append.mp hr with hr | hr
              · rcases List.mem_append.mp hr with hr | hr
                · exact hgen0 r hr
                · cases List.mem_singleton.mp hr
                  exact ⟨hfm, fun p hp _ => by cases List.mem_singleton.mp hp; exact hsn _ hzm⟩
              · cases List.mem_singleton.mp hr
                exact ⟨hzm, fun p hp _ => by cases List.mem_singleton.mp hp; exact hsn _ hfm⟩
          · exact restK _ _ ⟨g0, xs0, rfl, h70, hds0, ⟨by omega, by omega⟩, hgo0, s70, p70, hsub0, hgen0⟩
end
end FR


set_option linter.all false
set_option maxRecDepth 100000
set_option maxHeartbeats 4000000
namespace FR
open PySem L2

def isInK : Key → Bool
  | .inl _ => true
  | .inr _ => false
def spWholeK : Sp := fun vs H Q _ => ∃ k : Key, vs = [kV k] ∧ Q (.bl (isInK k)) H
def spNodeL : Sp := fun vs H Q _ => ∃ (t : Addr) (x : Nd), vs = [.ref t] ∧ H t = some (.tup ((keyN x).map kV)) ∧ Q (.bl true) H
def spHeights : Sp := fun vs H Q _ => ∃ (a : Addr) (o : Obj) (hs : Hs), vs = [.ref a] ∧ H a = some (.frz o (.dT (hsD hs))) ∧ Plain H ∧ ∀ H', Same H H' → Plain H' → Q (.bl true) H'
section
variable {P : Program} {w : World} {K : PySem.W.Frag} {mg : Str → Option Value} {base : Heap} {C : Adr}
theorem sc__law_whole : FnScope ["_law_found"] ["_law_found"] (defScope s__law_whole) := ⟨rfl, rfl, rfl, by decide +kernel, rfl, by decide +kernel, by decide +kernel⟩
theorem ok__law_whole {f : Addr} {fd : FuncData} (F : Fun K "_law_whole" "_law_whole" s__law_whole f fd) (T : Txt K mg C) : FnOk P w K mg base CX0 1 f fd ["_law_found"] (spWholeK) := by
  refine F.ok sc__law_whole (fun vs H Q E h => ?_) (fun cdv A outer s H vs Q E hr h => ?_)
  · obtain ⟨k, rfl, _⟩ := h
    rfl
  · obtain ⟨k, rfl, q⟩ := h
    refine ⟨_, (pss_one (ps_ret (pe_and (pe_callB (call_isiK K rfl) (by rfl) T.z_isinstance PyProof.Rows.Boot.«isinstance» (pa_cons (pv 0) (pa_cons (pe_bltn (v := .ty "int") (by rfl) T.z_int PyProof.Rows.Boot.«int» rfl) pa_nil))) (pe_one (pe_not (pe_callB (call_isiK K rfl) (by rfl) T.z_isinstance PyProof.Rows.Boot.«isinstance» (pa_cons (pv 0) (pa_cons (pe_bltn (v := .ty "bool") (by rfl) T.z_bool PyProof.Rows.Boot.«bool» rfl) pa_nil)))))))), ?_⟩
    cases k with
    | inl i => exact ⟨_, rfl, _, _, _, _, _, rfl, .int _, rfl, kit_int (.int i), _, rfl, iteT ⟨_, rfl, _, _, _, _, _, rfl, .int _, rfl, kit_bool (.int i), _, rfl, q⟩⟩
    | inr z => exact ⟨_, rfl, _, _, _, _, _, rfl, .str _, rfl, kit_int (.str z), _, rfl, iteF q⟩
theorem sc__law_node : FnScope ["_law_node_here", "_law_k"] ["_law_node_here"] (defScope s__law_node) := ⟨rfl, rfl, rfl, by decide +kernel, rfl, by decide +kernel, by decide +kernel⟩
theorem ok__law_node {f : Addr} {fd : FuncData} (F : Fun K "_law_node" "_law_node" s__law_node f fd) (T : Txt K mg C) (U__law_whole : Used P w K mg CX0 1 "_law_whole" ["_law_found"] (spWholeK)) : FnOk P w K mg base CX0 2 f fd ["_law_node_here"] (spNodeL) := by
  obtain ⟨f__law_whole, fd__law_whole, G__law_whole, m__law_whole, k__law_whole, b__law_whole⟩ := U__law_whole.ok
  refine F.ok sc__law_node (fun vs H Q E h => ?_) (fun cdv A outer s H vs Q E hr h => ?_)
  · obtain ⟨t, x, rfl, _⟩ := h
    rfl
  · obtain ⟨t, x, rfl, ht, q⟩ := h
    refine ⟨_, (pss_cons (ps_if (PW.pt (pw_or (pt_not (pt_val (pe_callB (call_isiK K rfl) (by rfl) T.z_isinstance PyProof.Rows.Boot.«isinstance» (pa_cons (pv 0) (pa_cons (pe_bltn (v := .ty "tuple") (by rfl) T.z_tuple PyProof.Rows.Boot.«tuple» rfl) pa_nil))))) (pw_or1 (pt_not (pt_chain op_le op_le pe_int (pe_callB (call_len_seqK K rfl) (by rfl) T.z_len PyProof.Rows.Boot.«len» (pa_cons (pv 0) pa_nil)) pe_int))))) (pss_one (ps_ret pe_bl)) pss_nil)
      (pss_cons (ps_for PassesOwn.never rfl (pi_range1 rfl T.z_range (pa_cons (pe_callB (call_len_seqK K rfl) (by rfl) T.z_len PyProof.Rows.Boot.«len» (pa_cons (pv 0) pa_nil)) pa_nil)) (pg_name (i := 1) sc__law_node.nd rfl (Or.inl rfl)) (pss_one (ps_if (PW.pt (pw_and (pt_not (pt_val (pe_call (G__law_whole base) (hr.mono (by decide)) (by rfl) m__law_whole k__law_whole b__law_whole .nil pass0 (pa_cons (pe_ix (ix_tupK K rfl) (pv 0) (pv 1) (fun _ _ => rfl)) pa_nil)))) (pw_and1 (PW.pt (pw_or (pt_cmpR op_gt (pv 1) pe_int (nomark _)) (pw_or (pt_cmpR op_eq (pe_callB (call_len_seqK K rfl) (by rfl) T.z_len PyProof.Rows.Boot.«len» (pa_cons (pv 0) pa_nil)) pe_int (nomark _)) (pw_or1 (pt_not (pt_val (pe_callB (call_isiK K rfl) (by rfl) T.z_isinstance PyProof.Rows.Boot.«isinstance» (pa_cons (pe_ix (ix_tupK K rfl) (pv 0) (pv 1) (fun _ _ => rfl)) (pa_cons (pe_bltn (v := .ty "str") (by rfl) T.z_str PyProof.Rows.Boot.«str» rfl) pa_nil)))))))))))) (pss_one (ps_ret pe_bl)) pss_nil)))
      (pss_one (ps_ret (pe_or (pe_cmpR op_eq (pe_callB (call_len_seqK K rfl) (by rfl) T.z_len PyProof.Rows.Boot.«len» (pa_cons (pv 0) pa_nil)) pe_int (nomark _)) (pe_one (pe_callB (call_isiK K rfl) (by rfl) T.z_isinstance PyProof.Rows.Boot.«isinstance» (pa_cons (pe_ix (ix_tupK K rfl) (pv 0) pe_int (fun _ _ => rfl)) (pa_cons (pe_bltn (v := .ty "str") (by rfl) T.z_str PyProof.Rows.Boot.«str» rfl) pa_nil))))))))), ?_⟩
    cases x with
    | part p a b =>
      have ht : H t = some (.tup [.str p, nV a, nV b]) := ht
      refine ⟨_, rfl, _, _, _, _, _, rfl, .tup ht, rfl, kit_tuple (.tup []), _, rfl, iteF ?_⟩
      refine ⟨_, rfl, t, _, rfl, .inr (SqT.of ht), _, _, rfl, rfl, _, rfl, iteT ⟨_, _, rfl, rfl, _, rfl, iteF ?_⟩⟩
      refine ⟨_, rfl, t, _, rfl, .inr (SqT.of ht), _, rfl, (in62 (x := 3) (by decide) (by decide)).1, (in62 (x := 3) (by decide) (by decide)).2, ?_⟩
      refine for_range (lo := 0) (n := 3) (fun i σ H2 => H2 = H ∧ ∃ v, σ = [some (.ref t), v]) ⟨rfl, none, rfl⟩ ?_ ?_
      · rintro i σ H2 hi ⟨rfl, v, rfl⟩
        match i, hi with
        | 0, _ =>
          refine ⟨_, rfl, _, rfl, t, _, _, _, rfl, rfl, SqT.of ht, rfl, Sum.inr p, rfl, _, rfl, iteT ?_⟩
          refine ⟨_, rfl, _, _, rfl, rfl, _, rfl, iteF ?_⟩
          refine ⟨_, rfl, t, _, rfl, .inr (SqT.of ht), rfl, _, rfl, iteF ?_⟩
          exact ⟨_, rfl, _, rfl, t, _, _, _, rfl, rfl, SqT.of ht, rfl, _, _, _, _, _, rfl, .str _, rfl, kit_str (.str p), _, rfl, iteF ⟨rfl, _, rfl⟩⟩
        | 1, _ => exact ⟨_, rfl, _, rfl, t, _, _, _, rfl, rfl, SqT.of ht, rfl, Sum.inl (a : Int), rfl, _, rfl, iteF ⟨rfl, _, rfl⟩⟩
        | 2, _ => exact ⟨_, rfl, _, rfl, t, _, _, _, rfl, rfl, SqT.of ht, rfl, Sum.inl (b : Int), rfl, _, rfl, iteF ⟨rfl, _, rfl⟩⟩
      · rintro σ H2 ⟨rfl, v, rfl⟩
        exact ⟨_, rfl, t, _, rfl, .inr (SqT.of ht), rfl, _, rfl, iteF ⟨_, rfl, t, _, 0, _, rfl, rfl, SqT.of ht, rfl, _, _, _, _, _, rfl, .str _, rfl, kit_str (.str p), q⟩⟩
    | beg r d a b =>
      have ht : H t = some (.tup [nV r, nV d, nV a, nV b]) := ht
      refine ⟨_, rfl, _, _, _, _, _, rfl, .tup ht, rfl, kit_tuple (.tup []), _, rfl, iteF ?_⟩
      refine ⟨_, rfl, t, _, rfl, .inr (SqT.of ht), _, _, rfl, rfl, _, rfl, iteT ⟨_, _, rfl, rfl, _, rfl, iteF ?_⟩⟩
      refine ⟨_, rfl, t, _, rfl, .inr (SqT.of ht), _, rfl, (in62 (x := 4) (by decide) (by decide)).1, (in62 (x := 4) (by decide) (by decide)).2, ?_⟩
      refine for_range (lo := 0) (n := 4) (fun i σ H2 => H2 = H ∧ ∃ v, σ = [some (.ref t), v]) ⟨rfl, none, rfl⟩ ?_ ?_
      · rintro i σ H2 hi ⟨rfl, v, rfl⟩
        match i, hi with
        | 0, _ => exact ⟨_, rfl, _, rfl, t, _, _, _, rfl, rfl, SqT.of ht, rfl, Sum.inl (r : Int), rfl, _, rfl, iteF ⟨rfl, _, rfl⟩⟩
        | 1, _ => exact ⟨_, rfl, _, rfl, t, _, _, _, rfl, rfl, SqT.of ht, rfl, Sum.inl (d : Int), rfl, _, rfl, iteF ⟨rfl, _, rfl⟩⟩
        | 2, _ => exact ⟨_, rfl, _, rfl, t, _, _, _, rfl, rfl, SqT.of ht, rfl, Sum.inl (a : Int), rfl, _, rfl, iteF ⟨rfl, _, rfl⟩⟩
        | 3, _ => exact ⟨_, rfl, _, rfl, t, _, _, _, rfl, rfl, SqT.of ht, rfl, Sum.inl (b : Int), rfl, _, rfl, iteF ⟨rfl, _, rfl⟩⟩
      · rintro σ H2 ⟨rfl, v, rfl⟩
        exact ⟨_, rfl, t, _, rfl, .inr (SqT.of ht), rfl, _, rfl, iteT q⟩
theorem sc__law_heights : FnScope ["_law_found", "_law_node_here", "_law_high"] ["_law_found"] (defScope s__law_heights) := ⟨rfl, rfl, rfl, by decide +kernel, rfl, by decide +kernel, by decide +kernel⟩
theorem ok__law_heights {f : Addr} {fd : FuncData} (F : Fun K "_law_heights" "_law_heights" s__law_heights f fd) (T : Txt K mg C) (U__law_node : Used P w K mg CX0 2 "_law_node" ["_law_node_here"] (spNodeL)) (U__law_whole : Used P w K mg CX0 1 "_law_whole" ["_law_found"] (spWholeK)) : FnOk P w K mg base CX0 3 f fd ["_law_found"] (spHeights) := by
  obtain ⟨f__law_node, fd__law_node, G__law_node, m__law_node, k__law_node, b__law_node⟩ := U__law_node.ok
  obtain ⟨f__law_whole, fd__law_whole, G__law_whole, m__law_whole, k__law_whole, b__law_whole⟩ := U__law_whole.ok
  refine F.ok sc__law_heights (fun vs H Q E h => ?_) (fun cdv A outer s H vs Q E hr h => ?_)
  · obtain ⟨a, o, hs, rfl, _⟩ := h
    rfl
  · obtain ⟨a, o, hs, rfl, ha, hp, q⟩ := h
    refine ⟨_, (pss_cons (ps_if (pt_not (pt_val (pe_callB (call_isiE K rfl) (by rfl) T.z_isinstance PyProof.Rows.Boot.«isinstance» (pa_cons (pv 0) (pa_cons (pe_bltn (v := .ty "dict") (by rfl) T.z_dict PyProof.Rows.Boot.«dict» rfl) pa_nil))))) (pss_one (ps_ret pe_bl)) pss_nil)
      (pss_cons (ps_for PassesOwn.never rfl (pi_itemsT (pv 0)) (pg_tupK K rfl (n := 2) rfl (pgs_cons (pg_name (i := 1) sc__law_heights.nd rfl (Or.inl rfl)) (pgs_cons (pg_name (i := 2) sc__law_heights.nd rfl (Or.inl rfl)) pgs_nil))) (pss_one (ps_if (PW.pt (pw_or (pt_not (pt_val (pe_call (G__law_node base) (hr.mono (by decide)) (by rfl) m__law_node k__law_node b__law_node .nil pass0 (pa_cons (pv 1) pa_nil)))) (pw_or (pt_not (pt_val (pe_call (G__law_whole base) (hr.mono (by decide)) (by rfl) m__law_whole k__law_whole b__law_whole .nil pass0 (pa_cons (pv 2) pa_nil)))) (pw_or1 (pt_cmpR op_lt (pv 2) pe_int (nomark _)))))) (pss_one (ps_ret pe_bl)) pss_nil)))
      (pss_one (ps_ret pe_bl)))), ?_⟩
    refine ⟨_, rfl, .inr ⟨a, o, _, _, _, true, rfl, ha, rfl, (by unfold PySem.W.kitOne; rw [if_pos (by simp)]), _, rfl, iteF ?_⟩⟩
    refine ⟨_, rfl, a, o, _, rfl, ha, for_itemsT (d := a) (o := o) (kvs := hsD hs) (fun i σ H2 => Same H H2 ∧ Plain H2 ∧ ∃ v1 v2, σ = [some (.ref a), v1, v2]) ⟨Same.refl _, hp, none, none, rfl⟩ ?_ ?_ ?_⟩
    · rintro i σ H2 _ ⟨s2, _⟩
      exact s2 _ _ ha
    · rintro i kv b T0 σ H2 hkv hb hT0 ⟨s2, p2, v1, v2, rfl⟩
      unfold hsD at hkv
      rw [List.getElem?_map] at hkv
      cases eq : hs[i]? with
      | none => rw [eq] at hkv; cases hkv
      | some nd =>
        rw [eq] at hkv
        cases hkv
        have s3 := Same.upd (o := .tup [.ref b, .int (nd.2 : Int)]) hT0
        refine ⟨T0, _, rfl, SqT.of upd_same, rfl, _, _, rfl, _, _, rfl, rfl, ?_⟩
        refine ⟨_, rfl, b, nd.1, rfl, s3 _ _ hb, _, rfl, iteF ?_⟩
        refine ⟨_, rfl, Sum.inl (nd.2 : Int), rfl, _, rfl, iteF ?_⟩
        refine ⟨_, rfl, _, _, rfl, rfl, _, rfl, ?_⟩
        rw [decide_eq_false (show ¬ (nd.2 : Int) < 0 by omega)]
        exact iteF ⟨s2.trans s3, p2.upd rfl, _, _, rfl⟩
    · rintro σ H2 ⟨s2, p2, v1, v2, rfl⟩
      exact q H2 s2 p2
end
end FR


set_option linter.all false
set_option maxRecDepth 100000
set_option maxHeartbeats 4000000
namespace FR
open PySem L2
theorem nd_LTs__law_part : (["_law_part"] : List Str).Nodup := by decide +kernel
theorem nd_LTs__law_part__law_shorts_here : (["_law_part", "_law_shorts_here"] : List Str).Nodup := by decide +kernel

def barren (e : Sz) (ps : List Str) : List Str := ps.filter fun x => !isQ x && (look e x).isNone
theorem comp_barren {K : PySem.W.Frag} {H : Hp} {p d lb : Addr} {ps : List Str} {e : Sz} {v : Option V} {Q : VK} (hp2 : H p = some (.tup (ps.map V.str))) (hps : ∀ x ∈ ps, isPartS x = true) (h6 : ps.length ≤ 6) (hd : H d = some (.dK (szD e))) (pl : Plain H) (hlb : H lb = none)
    (hq : ∀ H', Same H H' → Plain H' → H' lb = some (.lst ((barren e ps).map V.str)) → Q (.ref lb) H') :
    CompOk (Itt K p) (gName 0) (tAnd (tTest (tOp rNe (tOp rIxS (tVar 0) (tC (.int 0))) (tC (.str "'")))) (tB (tDNotIn (tVar 0) (tVar 1)))) (tVar 0) Q lb [v, some (.ref d)] H := by
  have hJ := (gives_tup (SqT.of (K := K) hp2)).g
  rw [List.length_map] at hJ
  refine comp_fm ps (fun x => if isQ x = true then none else if (look e x).isSome = true then none else some (.str x)) hJ pl hlb (line1000 (Nat.le_trans h6 (by decide))) (fun τ' => ∃ v, τ' = [v, some (.ref d)]) ⟨_, rfl⟩ ?_ ?_
  · rintro τ' k x y H' Q1 Q2 ⟨v, rfl⟩ hx hit hs hp' hQ1 hQ2
    rw [List.getElem?_map, hx] at hit
    cases hit
    obtain ⟨c, hc, hlen, hdec⟩ := part_first (hps x (List.mem_of_getElem? hx))
    refine ⟨_, rfl, x, 0, c, rfl, rfl, line1000 (by omega), hc, rfl, _, rfl, ?_⟩
    rw [hdec]
    by_cases hq : isQ x = true
    · rw [hq]
      exact hQ2 _ _ ⟨_, rfl⟩ (Same.refl _) hp' (by rw [if_pos hq])
    · have hq' : isQ x = false := Bool.eq_false_iff.mpr hq
      rw [hq']
      have ev : (valV (szD e) (Sum.inr x)).isSome = (look e x).isSome := by rw [valV_szD, Option.isSome_map]
      refine ⟨_, rfl, _, rfl, d, _, rfl, DGet.k (k := Sum.inr x) (hs _ _ hd), _, rfl, ?_⟩
      rw [ev]
      cases hlk : look e x with
      | some v => exact hQ2 _ _ ⟨_, rfl⟩ (Same.refl _) hp' (by rw [if_neg hq, hlk]; rfl)
      | none => exact ⟨_, rfl, hQ1 _ _ _ ⟨_, rfl⟩ (Same.refl _) hp' (by rw [if_neg hq, hlk]; rfl)⟩
  · intro H3 s3 p3 h3
    refine hq H3 s3 p3 ?_
    rw [h3]
    unfold barren
    rw [← List.filterMap_eq_map, List.filterMap_filter]
    refine congrArg (fun f => some (HO.lst (List.filterMap f ps))) (funext fun x => ?_)
    cases isQ x <;> cases look e x <;> rfl
theorem openB_iff {g : Gram} {e : Sz} {z : Str} {i : Nat} {r : Rule} (hr : g[i]? = some r) : openB g e z i = (decide (r.1 = z) && decide (barren e r.2.1 = [])) := by
  unfold openB
  rw [hr]
  show (decide (r.1 = z) && _) = _
  congr 1
  rw [Bool.eq_iff_iff, decide_eq_true_eq, List.all_eq_true]
  unfold barren
  rw [List.filter_eq_nil_iff]
  constructor
  · intro h p hp
    have := h p hp
    cases hq : isQ p <;> cases hl : look e p <;> simp [hq, hl] at this ⊢
  · intro h p hp
    have := h p hp
    cases hq : isQ p <;> cases hl : look e p <;> simp [hq, hl] at this ⊢
theorem openL_succ (g : Gram) (e : Sz) (z : Str) (i : Nat) : openL g e z (i + 1) = openL g e z i ++ (if openB g e z i = true then [i] else []) := by
  unfold openL
  rw [List.range_succ, List.filter_append]
  congr 1
  by_cases hb : openB g e z i = true
  · rw [if_pos hb, List.filter_cons, if_pos hb]; rfl
  · rw [if_neg hb, List.filter_cons, if_neg hb]; rfl
theorem rowS_nil {g : Gram} {ks sg : List Nat} (h : RowS g [] ks sg) : ks = [] ∧ sg = [] := by
  cases h
  exact ⟨rfl, rfl⟩
theorem rowS_sign {g : Gram} {p : Str} {ws : List Str} {ks sg : List Nat} (hq : isQ p = true) (h : RowS g (p :: ws) ks sg) : ∃ sg', sg = sgn p :: sg' ∧ RowS g ws ks sg' := by
  generalize hz : p :: ws = zs at h
  cases h with
  | nil => cases hz
  | sign hq' h => cases hz; exact ⟨_, rfl, h⟩
  | name hq' er h => cases hz; rw [hq] at hq'; cases hq'
theorem rowS_name {g : Gram} {p : Str} {ws : List Str} {ks sg : List Nat} (hq : isQ p = false) (h : RowS g (p :: ws) ks sg) : ∃ k ks' r, ks = k :: ks' ∧ g[k]? = some r ∧ r.1 = p ∧ RowS g (r.2.1 ++ ws) ks' sg := by
  generalize hz : p :: ws = zs at h
  cases h with
  | nil => cases hz
  | sign hq' h => cases hz; rw [hq] at hq'; cases hq'
  | @name r ws' k ks' sg hq' er h => cases hz; exact ⟨k, ks', r, rfl, er, rfl, h⟩
theorem str_snoc (s : List Nat) (c : Nat) : (⟨s.toArray⟩ : Str) ++ ⟨#[c]⟩ = ⟨(s ++ [c]).toArray⟩ := by
  have h := app_list ⟨s.toArray⟩ ⟨#[c]⟩
  cases hj : (⟨s.toArray⟩ : Str) ++ ⟨#[c]⟩
  congr 1
  apply Array.toList_inj.mp
  rw [hj] at h
  rw [h]
theorem needN_app (a b : List Str) : needN (a ++ b) = needN a + needN b := by
  unfold needN
  rw [List.map_append, List.sum_append]
theorem needN_rev (a : List Str) : needN a.reverse = needN a := by
  unfold needN
  rw [List.map_reverse, List.sum_reverse]
theorem needN_sign {p : Str} (h : isQ p = true) : needN [p] = 1 := by
  unfold needN
  rw [List.map_cons, if_pos h]
  rfl
theorem needN_name {p : Str} (h : isQ p = false) : needN [p] = 2 := by
  unfold needN
  rw [List.map_cons, if_neg (by rw [h]; decide)]
  rfl
theorem unQ_le : ∀ a : List Str, (unQ a).length ≤ needN a
  | [] => Nat.le_refl _
  | p :: a => by
    have ih := unQ_le a
    have e : needN (p :: a) = needN [p] + needN a := needN_app [p] a
    unfold unQ at ih ⊢
    rw [e, List.filter_cons]
    cases hq : isQ p with
    | true => rw [needN_sign hq]; simp only [Bool.not_true, Bool.false_eq_true, if_false]; omega
    | false => rw [needN_name hq]; simp only [Bool.not_false, if_true, List.length_cons]; omega
theorem len_need : ∀ a : List Str, a.length ≤ needN a
  | [] => Nat.le_refl _
  | p :: a => by
    have ih := len_need a
    have e : needN (p :: a) = needN [p] + needN a := needN_app [p] a
    rw [e, List.length_cons]
    cases hq : isQ p with
    | true => rw [needN_sign hq]; omega
    | false => rw [needN_name hq]; omega
theorem need_signs : ∀ {a : List Str}, (∀ p ∈ a, isQ p = true) → needN a = a.length ∧ unQ a = []
  | [], _ => ⟨rfl, rfl⟩
  | p :: a, h => by
    obtain ⟨i1, i2⟩ := need_signs (a := a) fun q hq => h q (List.mem_cons_of_mem _ hq)
    have hp := h p (List.mem_cons_self ..)
    have e : needN (p :: a) = needN [p] + needN a := needN_app [p] a
    refine ⟨by rw [e, needN_sign hp, i1, List.length_cons]; omega, ?_⟩
    unfold unQ at i2 ⊢
    rw [List.filter_cons, hp]
    exact i2
theorem unQ_app2 (a b : List Str) : unQ (a ++ b) = unQ a ++ unQ b := by
  unfold unQ
  rw [List.filter_append]
theorem unQ_len1 {p : Str} (h : isQ p = false) : (unQ [p]).length = 1 := by
  unfold unQ
  rw [List.filter_cons, h]
  rfl
theorem unQ_rev (a : List Str) : (unQ a.reverse).length = (unQ a).length := by
  unfold unQ
  rw [List.filter_reverse, List.length_reverse]
theorem dget_szB {H : Hp} {d : Addr} {s : Sz} {z : Str} {v : Int} (hd : H d = some (.dK (szD s))) (h : look s z = some v) : DGet H d (.str z) (some (.int v)) := by
  have := DGet.k (k := Sum.inr z) hd
  rw [valV_szD, h] at this
  exact this

def fitB (g : Gram) (m : Int) (k : Nat) : Bool := match g[k]? with
  | some r => decide (((needN r.2.1 : Nat) : Int) ≤ m)
  | none => false
theorem fitB_at {g : Gram} {m : Int} {k : Nat} {r : Rule} (h : g[k]? = some r) : fitB g m k = decide (((needN r.2.1 : Nat) : Int) ≤ m) := by
  unfold fitB
  rw [h]
def openM (g : Gram) (e : Sz) (z : Str) (m : Int) (n : Nat) : List Nat := (openL g e z n).filter (fitB g m)
theorem openM_succ (g : Gram) (e : Sz) (z : Str) (m : Int) (i : Nat) : openM g e z m (i + 1) = openM g e z m i ++ (if openB g e z i = true ∧ fitB g m i = true then [i] else []) := by
  unfold openM
  rw [openL_succ, List.filter_append]
  congr 1
  cases h1 : openB g e z i <;> cases h2 : fitB g m i <;> simp [h2]
theorem openM_len (g : Gram) (e : Sz) (z : Str) (m : Int) (i : Nat) : (openM g e z m i).length ≤ i := by
  unfold openM openL
  refine Nat.le_trans (List.length_filter_le _ _) (Nat.le_trans (List.length_filter_le _ _) ?_)
  rw [List.length_range]
  exact Nat.le_refl _
def spOpenM : Sp := fun vs H Q _ => ∃ (l d : Addr) (xs : List V) (g : Gram) (e : Sz) (z : Str) (m : Int), vs = [.ref l, .ref d, .str z, .int m] ∧ H l = some (.lst xs) ∧ Dens H xs (g.map ruleD) ∧ okGram g = true ∧ H d = some (.dK (szD e)) ∧ Plain H ∧
  ∀ o H', Same H H' → Plain H' → H o = none → H' o = some (.lst ((openM g e z m g.length).map nV)) → Q (.ref o) H'
def spRowM (K : PySem.W.Frag) : Sp := fun vs H Q _ => ∃ (l c : Addr) (xs : List V) (g : Gram) (ns : List Int) (R : Nat), vs = [.ref l, .ref c, .int (R : Int)] ∧ 2 ≤ R ∧ R ≤ 60 ∧ H l = some (.lst xs) ∧ Dens H xs (g.map ruleD) ∧ okGram g = true ∧ GramOk g ∧ SqL K H c (ns.map V.int) ∧ ns.length ≤ 63 ∧ Plain H ∧
  ∀ o r0 rest (ks sg : List Nat) H', g = r0 :: rest → RowS g [r0.1] ks sg → sg.length ≤ R → ks.length ≤ 200 → Same H H' → Plain H' → H o = none → H' o = some (.lst (ks.map nV)) → Q (.ref o) H'
def spRead : Sp := fun vs H Q _ => ∃ (l o : Addr) (xs : List V) (r0 : Rule) (rest : List Rule) (ks sg : List Nat), vs = [.ref l, .ref o] ∧ H l = some (.lst xs) ∧ Dens H xs ((r0 :: rest).map ruleD) ∧ okGram (r0 :: rest) = true ∧ H o = some (.lst (ks.map nV)) ∧ RowS (r0 :: rest) [r0.1] ks sg ∧ ks.length ≤ 1000 ∧ Plain H ∧
  ∀ H', Same H H' → Plain H' → Q (.str ⟨sg.toArray⟩) H'
section
variable {P : Program} {w : World} {K : PySem.W.Frag} {mg : Str → Option Value} {base : Heap} {C : Adr}
theorem sc__law_shorts : FnScope ["_law_grammar_here", "_law_shorts_here", "_law_k", "_law_names_here"] ["_law_grammar_here"] (defScope s__law_shorts) := ⟨rfl, rfl, rfl, by decide +kernel, rfl, by decide +kernel, by decide +kernel⟩
theorem ok__law_shorts {f : Addr} {fd : FuncData} (F : Fun K "_law_shorts" "_law_shorts" s__law_shorts f fd) (T : Txt K mg C) : FnOk P w K mg base CX0 1 f fd ["_law_grammar_here"] (spShorts) := by
  refine F.ok sc__law_shorts (fun vs H Q E h => ?_) (fun cdv A outer s H vs Q E hr h => ?_)
  · obtain ⟨l, xs, g, rfl, _⟩ := h
    rfl
  · obtain ⟨l, xs, g, rfl, hl, hds, hg, hp, q⟩ := h
    have hu := hu_of hr
    have hU := hr.units
    refine ⟨_, (pss_cons (ps_set (i := 1) sc__law_shorts.nd rfl (Or.inl rfl) pe_dnewK)
      (pss_cons (ps_for PassesOwn.never rfl (pi_range1 rfl T.z_range (pa_cons (pe_callB (call_len_seqK K rfl) (by rfl) T.z_len PyProof.Rows.Boot.«len» (pa_cons (pv 0) pa_nil)) pa_nil)) (pg_name (i := 2) sc__law_shorts.nd rfl (Or.inl rfl)) (pss_cons (ps_setC (N := ["_law_part"]) (ρ := [none]) (cl := []) (i := 3) sc__law_shorts.nd rfl rfl rfl (CompScope.plain rfl (by decide +kernel) (by decide +kernel) rfl (by simp)) (pi_tupK K rfl (pe_ix (ix_tupK K rfl) (pe_ix (ix_listK K rfl) (pv 0) (pv 2) (fun _ _ => rfl)) pe_int (fun _ _ => rfl))) (fun _ _ _ _ _ => (pg_name (i := 0) nd_LTs__law_part rfl (Or.inl rfl) (.inr rfl))) (fun _ _ _ _ _ => (pts_one (pt_cmpR op_ne (pe_ix ix_str (pv 0) pe_int (fun _ _ => rfl)) pe_str (nomark _)))) (fun _ _ _ _ _ => (pv 0)))
      (pss_one (ps_if (PW.pt (pw_and (pt_cmpR (op_eq_deep K rfl hU) (pv 3) (pe_lst pa_nil) (nomark _)) (pw_and (pt_cmpR op_lt (pe_callB (call_len_seqK K rfl) (by rfl) T.z_len PyProof.Rows.Boot.«len» (pa_cons (pe_ix (ix_tupK K rfl) (pe_ix (ix_listK K rfl) (pv 0) (pv 2) (fun _ _ => rfl)) pe_int (fun _ _ => rfl)) pa_nil)) pe_int (nomark _)) (pw_and1 (pt_cmp (pc_dnotin hu (pe_ix (ix_tupK K rfl) (pe_ix (ix_listK K rfl) (pv 0) (pv 2) (fun _ _ => rfl)) pe_int (fun _ _ => rfl)) (pv 1))))))) (pss_one (ps_dput hu (pv 1) (pe_ix (ix_tupK K rfl) (pe_ix (ix_listK K rfl) (pv 0) (pv 2) (fun _ _ => rfl)) pe_int (fun _ _ => rfl)) (pv 2) rfl)) pss_nil))))
      (pss_one (ps_ret (pv 1))))), ?_⟩
    have hg60 := gram_60 hg
    have hxl : xs.length = g.length := by rw [hds.len, List.length_map]
    intro d hd
    have s1 := Same.upd (o := .dK []) hd
    refine ⟨_, rfl, l, _, rfl, .inl (SqL.of (s1 _ _ hl)), (xs.length : Int), rfl, (in62 (by omega) (by omega)).1, (in62 (by omega) (by omega)).2, ?_⟩
    refine for_range (lo := 0) (n := ((xs.length : Nat) : Int).toNat) (fun k σ H4 => ∃ (e : Sz) (v2 v3 : Option V), σ = [some (.ref l), some (.ref d), v2, v3] ∧ H4 d = some (.dK (szD e)) ∧ ShOk g e ∧ e.length ≤ k ∧ (∀ j, j < k → ∀ r, g[j]? = some r → (∀ p ∈ r.2.1, isQ p = true) → r.2.1.length ≤ 2 → r.1 ∈ e.map (·.1)) ∧ Same H H4 ∧ Plain H4)
      ⟨[], none, none, rfl, upd_same, ⟨List.nodup_nil, fun z v e => by cases e⟩, Nat.zero_le _, fun j hj => absurd hj (Nat.not_lt_zero _), s1, hp.upd rfl⟩ ?_ ?_
    · rintro k σ H4 hk ⟨e, v2, v3, rfl, hd4, he, hel, hrs, s4, p4⟩
      have hkl : k < g.length := by omega
      obtain ⟨r, er⟩ : ∃ r, g[k]? = some r := ⟨_, List.getElem?_eq_getElem hkl⟩
      obtain ⟨t, pp, ax, ht, hpp⟩ := rule_num (hds.same s4) er
      have ax : atI xs (0 + (k : Int)) = some (.ref t) := by rw [Int.zero_add]; exact ax
      have hok := rule_parts (rule_okB hg er)
      refine ⟨_, rfl, _, rfl, l, _, _, _, rfl, rfl, SqL.of (s4 _ _ hl), ax, t, _, 1, _, rfl, rfl, SqT.of ht, rfl, pp, rfl, ⟨_, SqT.of hpp⟩, fun lb hlb => ?_⟩
      have hJ := (gives_tup (SqT.of (K := K) hpp)).g
      rw [List.length_map] at hJ
      refine comp_fm r.2.1 (fun x => if isQ x = true then none else some (.str x)) hJ p4 hlb (line1000 (by omega)) (fun τ' => ∃ v, τ' = [v]) ⟨_, rfl⟩ ?_ ?_
      · rintro τ' k x y H' Q1 Q2 ⟨v, rfl⟩ hx hit hs hp' hQ1 hQ2
        rw [List.getElem?_map, hx] at hit
        cases hit
        obtain ⟨c, hc, hlen, hdec⟩ := part_first (hok.2 x (List.mem_of_getElem? hx))
        refine ⟨_, rfl, x, 0, c, rfl, rfl, line1000 (by omega), hc, rfl, _, rfl, ?_⟩
        rw [hdec]
        by_cases hq : isQ x = true
        · rw [hq]
          exact hQ2 _ _ ⟨_, rfl⟩ (Same.refl _) hp' (by rw [if_pos hq])
        · rw [Bool.eq_false_iff.mpr hq]
          exact ⟨_, rfl, hQ1 _ _ _ ⟨_, rfl⟩ (Same.refl _) hp' (by rw [if_neg hq])⟩
      intro H5 s5 p5 h5
      have eu : r.2.1.filterMap (fun x => if isQ x = true then none else some (V.str x)) = (unQ r.2.1).map V.str := by
        unfold unQ
        rw [← List.filterMap_eq_map, List.filterMap_filter]
        refine congrArg (fun f => List.filterMap f r.2.1) (funext fun x => ?_)
        cases isQ x <;> rfl
      rw [eu] at h5
      refine ⟨_, rfl, Nat.zero_le _, fun le hle => ?_⟩
      have s6 := Same.upd (o := .lst []) hle
      refine ⟨_, _, .lst (.inl (s6 _ _ h5)) (Dens.strs _), .lst (.inl upd_same) .nil, ok_strs _, rfl, dep_strs _, _, rfl, ?_⟩
      rw [eqD_nil]
      have s46 := s5.trans s6
      have p6 : Plain (upd H5 le (.lst [])) := p5.upd rfl
      revert s46 p6
      generalize upd H5 le (.lst []) = H6
      intro s46 p6
      have s06 := s4.trans s46
      have sql : SqL K H6 l xs := SqL.of (s06 _ _ hl)
      have sqt := SqT.of (K := K) (s46 _ _ ht)
      have skip : ((∀ p ∈ r.2.1, isQ p = true) → r.2.1.length ≤ 2 → r.1 ∈ e.map (·.1)) → ∀ j, j < k + 1 → ∀ r, g[j]? = some r → (∀ p ∈ r.2.1, isQ p = true) → r.2.1.length ≤ 2 → r.1 ∈ e.map (·.1) := fun h j hj r' er' a b => by
        by_cases hjk : j = k
        · subst hjk
          rw [er] at er'
          cases er'
          exact h a b
        · exact hrs j (by omega) r' er' a b
      by_cases hb : unQ r.2.1 = []
      case neg =>
        rw [decide_eq_false hb]
        refine iteF ⟨e, _, _, rfl, s46 _ _ hd4, he, by omega, skip fun a _ => absurd ?_ hb, s06, p6⟩
        unfold unQ
        rw [List.filter_eq_nil_iff]
        intro p hp
        rw [a p hp]
        decide
      rw [decide_eq_true hb]
      have hall : ∀ p ∈ r.2.1, isQ p = true := fun p hp => by
        unfold unQ at hb
        rw [List.filter_eq_nil_iff] at hb
        have := hb p hp
        cases hq : isQ p with
        | true => rfl
        | false => rw [hq] at this; exact absurd rfl this
      refine iteT ⟨_, rfl, _, rfl, l, _, _, _, rfl, rfl, sql, ax, t, _, 1, _, rfl, rfl, sqt, rfl, pp, _, rfl, .inr (SqT.of (s46 _ _ hpp)), _, _, rfl, rfl, _, rfl, ?_⟩
      rw [List.length_map]
      by_cases h3 : r.2.1.length < 3
      case neg =>
        rw [decide_eq_false (by omega)]
        exact iteF ⟨e, _, _, rfl, s46 _ _ hd4, he, by omega, skip fun _ b => by omega, s06, p6⟩
      rw [decide_eq_true (by omega)]
      refine iteT ⟨_, rfl, _, rfl, l, _, _, _, rfl, rfl, sql, ax, t, _, 0, _, rfl, rfl, sqt, rfl, _, rfl, d, _, rfl, DGet.k (k := Sum.inr r.1) (s46 _ _ hd4), _, rfl, ?_⟩
      rw [valV_szD, Option.isSome_map]
      cases hlk : look e r.1 with
      | some v => exact ⟨e, _, _, rfl, s46 _ _ hd4, he, by omega, skip fun _ _ => List.mem_map.mpr ⟨_, look_mem hlk, rfl⟩, s06, p6⟩
      | none =>
        have hnew := look_none hlk
        have len : (szD e).length < sizeLine := by
          unfold szD
          rw [List.length_map]
          exact Nat.lt_of_lt_of_le (show _ < 1000 by omega) (line1000 (Nat.le_refl _))
        have put : DPut H6 d (.str r.1) (.int (0 + (k : Int))) (upd H6 d (.dK (szD (e ++ [(r.1, (k : Int))])))) := by
          have := DPut.k (k := Sum.inr r.1) (v := .int (0 + (k : Int))) (s46 _ _ hd4) len
          rw [put_szD he.nd, putS_new hnew, Int.zero_add] at this
          rw [Int.zero_add]
          exact this
        have elk : ∀ z v, look (e ++ [(r.1, (k : Int))]) z = some v → look e z = some v ∨ (z = r.1 ∧ v = (k : Int)) := fun z v h => by
          have := look_put e r.1 z (k : Int)
          rw [putS_new hnew, h] at this
          split at this
          · rename_i hz
            cases this
            exact .inr ⟨hz, rfl⟩
          · exact .inl this.symm
        refine ⟨_, rfl, _, rfl, _, rfl, _, rfl, l, _, _, _, rfl, rfl, sql, ax, t, _, 0, _, rfl, rfl, sqt, rfl, d, _, rfl, put, e ++ [(r.1, (k : Int))], _, _, rfl, upd_same, ⟨?_, fun z v h => ?_⟩, by rw [List.length_append]; exact Nat.succ_le_succ hel, fun j hj r' er' a b => ?_, s06.put hd, p6.upd rfl⟩
        · rw [List.map_append]
          exact nd_snoc he.nd hnew
        · rcases elk z v h with h | ⟨rfl, rfl⟩
          · exact he.at_ z v h
          · exact ⟨k, r, rfl, er, rfl, hall, by omega⟩
        · rw [List.map_append]
          by_cases hjk : j = k
          · subst hjk
            rw [er] at er'
            cases er'
            exact List.mem_append_right _ (List.mem_singleton.mpr rfl)
          · exact List.mem_append_left _ (hrs j (by omega) r' er' a b)
    · rintro σ H4 ⟨e, v2, v3, rfl, hd4, he, hel, hrs, s4, p4⟩
      refine ⟨_, rfl, q d e H4 he (fun r hr' a b => ?_) s4 p4 hd hd4⟩
      obtain ⟨j, hj, e1⟩ := List.mem_iff_getElem.mp hr'
      exact hrs j (by omega) r (by rw [List.getElem?_eq_getElem hj, e1]) a b
theorem sc__law_need : FnScope ["_law_parts_here"] ["_law_parts_here"] (defScope s__law_need) := ⟨rfl, rfl, rfl, by decide +kernel, rfl, by decide +kernel, by decide +kernel⟩
theorem ok__law_need {f : Addr} {fd : FuncData} (F : Fun K "_law_need" "_law_need" s__law_need f fd) (T : Txt K mg C) : FnOk P w K mg base CX0 1 f fd ["_law_parts_here"] (spNeed) := by
  refine F.ok sc__law_need (fun vs H Q E h => ?_) (fun cdv A outer s H vs Q E hr h => ?_)
  · obtain ⟨p, ps, rfl, _⟩ := h
    rfl
  · obtain ⟨p, ps, rfl, hpp, hps, hpl, hp, q⟩ := h
    rcases hpp with hpp | hpp
    · refine ⟨_, (pss_one (ps_ret (pe_callB (call_sum rfl) (by rfl) T.z_sum PyProof.Rows.Boot.«sum» (pa_cons (pe_comp (N := ["_law_part"]) (ρ := [none]) (cl := []) rfl (CompScope.plain rfl (by decide +kernel) (by decide +kernel) rfl (by simp)) (pi_listK K rfl (pv 0)) (fun _ _ _ _ _ => (pg_name (i := 0) nd_LTs__law_part rfl (Or.inl rfl) (.inr rfl))) (fun _ _ _ _ _ => pts_nil) (fun _ _ _ _ _ => (pe_op op_add pe_int (pe_callTy call_int1 (by rfl) T.z_int PyProof.Rows.Boot.«int» (pa_cons (pe_cmpR op_ne (pe_ix ix_str (pv 0) pe_int (fun _ _ => rfl)) pe_str (nomark _)) pa_nil))))) pa_nil)))), ?_⟩
      refine ⟨_, rfl, p, rfl, ⟨_, SqL.of hpp⟩, fun lb hlb => ?_⟩
      have hJ := (gives_list (SqL.of (K := K) hpp)).g
      rw [List.length_map] at hJ
      refine comp_need hJ hps hpl hp hlb fun H5 s5 p5 h5 => ⟨lb, _, rfl, SqL.of h5, ?_⟩
      rw [need_sum]
      exact q H5 s5 p5
    · refine ⟨_, (pss_one (ps_ret (pe_callB (call_sum rfl) (by rfl) T.z_sum PyProof.Rows.Boot.«sum» (pa_cons (pe_comp (N := ["_law_part"]) (ρ := [none]) (cl := []) rfl (CompScope.plain rfl (by decide +kernel) (by decide +kernel) rfl (by simp)) (pi_tupK K rfl (pv 0)) (fun _ _ _ _ _ => (pg_name (i := 0) nd_LTs__law_part rfl (Or.inl rfl) (.inr rfl))) (fun _ _ _ _ _ => pts_nil) (fun _ _ _ _ _ => (pe_op op_add pe_int (pe_callTy call_int1 (by rfl) T.z_int PyProof.Rows.Boot.«int» (pa_cons (pe_cmpR op_ne (pe_ix ix_str (pv 0) pe_int (fun _ _ => rfl)) pe_str (nomark _)) pa_nil))))) pa_nil)))), ?_⟩
      refine ⟨_, rfl, p, rfl, ⟨_, SqT.of hpp⟩, fun lb hlb => ?_⟩
      have hJ := (gives_tup (SqT.of (K := K) hpp)).g
      rw [List.length_map] at hJ
      refine comp_need hJ hps hpl hp hlb fun H5 s5 p5 h5 => ⟨lb, _, rfl, SqL.of h5, ?_⟩
      rw [need_sum]
      exact q H5 s5 p5
theorem sc__law_open : FnScope ["_law_grammar_here", "_law_shorts_here", "_law_name", "_law_most", "_law_some", "_law_k", "_law_barren"] ["_law_grammar_here", "_law_shorts_here", "_law_name", "_law_most"] (defScope s__law_open) := ⟨rfl, rfl, rfl, by decide +kernel, rfl, by decide +kernel, by decide +kernel⟩
theorem ok__law_open {f : Addr} {fd : FuncData} (F : Fun K "_law_open" "_law_open" s__law_open f fd) (T : Txt K mg C) (U__law_need : Used P w K mg CX0 1 "_law_need" ["_law_parts_here"] (spNeed)) : FnOk P w K mg base CX0 2 f fd ["_law_grammar_here", "_law_shorts_here", "_law_name", "_law_most"] (spOpenM) := by
  obtain ⟨f__law_need, fd__law_need, G__law_need, m__law_need, k__law_need, b__law_need⟩ := U__law_need.ok
  refine F.ok sc__law_open (fun vs H Q E h => ?_) (fun cdv A outer s H vs Q E hr h => ?_)
  · obtain ⟨l, d, xs, g, e, z, m, rfl, _⟩ := h
    rfl
  · obtain ⟨l, d, xs, g, e, z, m, rfl, hl, hds, hg, hd, hp, q⟩ := h
    have hu := hu_of hr
    have hU := hr.units
    refine ⟨_, (pss_cons (ps_set (i := 4) sc__law_open.nd rfl (Or.inl rfl) (pe_lst pa_nil))
      (pss_cons (ps_for PassesOwn.never rfl (pi_range1 rfl T.z_range (pa_cons (pe_callB (call_len_seqK K rfl) (by rfl) T.z_len PyProof.Rows.Boot.«len» (pa_cons (pv 0) pa_nil)) pa_nil)) (pg_name (i := 5) sc__law_open.nd rfl (Or.inl rfl)) (pss_cons (ps_setC (N := ["_law_part", "_law_shorts_here"]) (ρ := [none, some 1]) (i := 6) sc__law_open.nd rfl rfl rfl (CompScope.closes ["_law_grammar_here", "_law_shorts_here", "_law_name", "_law_most", "_law_some", "_law_k", "_law_barren"] (defScope s__law_open).names rfl rfl rfl rfl (by decide +kernel) (by decide +kernel) (fun x h => cell_has h) (by decide +kernel) rfl (by decide +kernel)) (pi_tupK K rfl (pe_ix (ix_tupK K rfl) (pe_ix (ix_listK K rfl) (pv 0) (pv 5) (fun _ _ => rfl)) pe_int (fun _ _ => rfl))) (fun _ _ _ _ _ => (pg_name (i := 0) nd_LTs__law_part__law_shorts_here rfl (Or.inl rfl) (.inr rfl))) (fun _ _ _ _ _ => (pts_one (PW.pt (pw_and (pt_cmpR op_ne (pe_ix ix_str (pv 0) pe_int (fun _ _ => rfl)) pe_str (nomark _)) (pw_and1 (pt_cmp (pc_dnotin hu (pv 0) (pv 1)))))))) (fun _ _ _ _ _ => (pv 0)))
      (pss_one (ps_if (PW.pt (pw_and (pt_cmpR op_eq (pe_ix (ix_tupK K rfl) (pe_ix (ix_listK K rfl) (pv 0) (pv 5) (fun _ _ => rfl)) pe_int (fun _ _ => rfl)) (pv 2) (nomark _)) (pw_and (pt_cmpR (op_eq_deep K rfl hU) (pv 6) (pe_lst pa_nil) (nomark _)) (pw_and1 (pt_cmpR op_le (pe_call (G__law_need base) (hr.mono (by decide)) (by rfl) m__law_need k__law_need b__law_need .nil pass0 (pa_cons (pe_ix (ix_tupK K rfl) (pe_ix (ix_listK K rfl) (pv 0) (pv 5) (fun _ _ => rfl)) pe_int (fun _ _ => rfl)) pa_nil)) (pv 3) (nomark _)))))) (pss_one (ps_expr (pe_bmK K rfl PySem.F.plainAttrs_list PySem.F.slot_list_append PySem.F.type_list_append mt_append (pv 4) (pa_cons (pv 5) pa_nil)))) pss_nil))))
      (pss_one (ps_ret (pv 4))))), ?_⟩
    have hg60 := gram_60 hg
    have hxl : xs.length = g.length := by rw [hds.len, List.length_map]
    refine ⟨Nat.zero_le _, fun lo hlo => ?_⟩
    have s1 := Same.upd (o := .lst []) hlo
    refine ⟨_, rfl, l, _, rfl, .inl (SqL.of (s1 _ _ hl)), (xs.length : Int), rfl, (in62 (by omega) (by omega)).1, (in62 (by omega) (by omega)).2, ?_⟩
    refine for_range (lo := 0) (n := ((xs.length : Nat) : Int).toNat) (fun k σ H4 => ∃ (v4 v5 : Option V), σ = [some (.ref l), some (.ref d), some (.str z), some (.int m), some (.ref lo), v4, v5] ∧ H4 lo = some (.lst ((openM g e z m k).map nV)) ∧ Same H H4 ∧ Plain H4)
      ⟨none, none, rfl, upd_same, s1, hp.upd rfl⟩ ?_ ?_
    · rintro k σ H4 hk ⟨v4, v5, rfl, h4, s4, p4⟩
      have hkl : k < xs.length := by omega
      have hi : xs[k]? = some xs[k] := List.getElem?_eq_getElem hkl
      obtain ⟨r, tt, p, er, ey, ht1, hpp⟩ := rule_at hds hi
      have ax : atI xs (0 + (k : Int)) = some (.ref tt) := by rw [Int.zero_add, ← ey]; exact atI_nat hi
      have hok := rule_okB hg er
      have ht4 := s4 _ _ ht1
      have hp4 := s4 _ _ hpp
      have oi := openB_iff (e := e) (z := z) er
      refine ⟨_, rfl, _, rfl, l, _, _, _, rfl, rfl, SqL.of (s4 _ _ hl), ax, tt, _, 1, _, rfl, rfl, SqT.of ht4, rfl, p, rfl, ⟨_, SqT.of hp4⟩, fun lb hlb => ?_⟩
      refine comp_barren hp4 (rule_parts hok).2 (rule_parts hok).1 (s4 _ _ hd) p4 hlb fun H5 s5 p5 h5 => ?_
      refine ⟨_, rfl, _, rfl, l, _, _, _, rfl, rfl, SqL.of ((s4.trans s5) _ _ hl), ax, tt, _, 0, _, rfl, rfl, SqT.of (s5 _ _ ht4), rfl, _, rfl, rfl, _, rfl, ?_⟩
      rw [decS]
      by_cases hz : ¬ r.1 = z
      · rw [decide_eq_false hz]
        rw [decide_eq_false hz, Bool.false_and] at oi
        refine ⟨_, _, rfl, ?_, s4.trans s5, p5⟩
        rw [openM_succ, oi, if_neg (fun h => absurd h.1 (by decide)), List.append_nil]
        exact s5 _ _ h4
      have hz : r.1 = z := Decidable.not_not.mp hz
      rw [decide_eq_true hz]
      rw [decide_eq_true hz, Bool.true_and] at oi
      refine iteT ⟨_, rfl, Nat.zero_le _, fun le hle => ?_⟩
      have s6 := Same.upd (o := .lst []) hle
      refine ⟨_, _, .lst (.inl (s6 _ _ h5)) (Dens.strs _), .lst (.inl upd_same) .nil, ok_strs _, rfl, dep_strs _, _, rfl, ?_⟩
      rw [eqD_nil]
      have s46 := s5.trans s6
      by_cases hb : ¬ barren e r.2.1 = []
      · rw [decide_eq_false hb]
        rw [decide_eq_false hb] at oi
        refine ⟨_, _, rfl, ?_, s4.trans s46, p5.upd rfl⟩
        rw [openM_succ, oi, if_neg (fun h => absurd h.1 (by decide)), List.append_nil]
        exact s46 _ _ h4
      · have hb : barren e r.2.1 = [] := Decidable.not_not.mp hb
        rw [decide_eq_true hb]
        rw [decide_eq_true hb] at oi
        have hlen := openM_len g e z m k
        refine iteT ⟨_, rfl, _, rfl, l, _, _, _, rfl, rfl, SqL.of ((s4.trans s46) _ _ hl), ax, tt, _, 1, _, rfl, rfl, SqT.of (s46 _ _ ht4), rfl, p, r.2.1, rfl, .inr (s46 _ _ hp4), (rule_parts hok).2, Nat.le_trans (rule_parts hok).1 (by decide), p5.upd rfl, fun H7 s7 p7 => ⟨_, rfl, _, _, rfl, rfl, _, rfl, ?_⟩⟩
        have s47 := s46.trans s7
        have ef := fitB_at (m := m) er
        rw [← ef]
        cases hf : fitB g m k with
        | false =>
          refine iteF ⟨_, _, rfl, ?_, s4.trans s47, p7⟩
          rw [openM_succ, hf, if_neg (fun h => absurd h.2 (by decide)), List.append_nil]
          exact s47 _ _ h4
        | true =>
          refine iteT ⟨_, rfl, .inl ⟨rfl, _, SqL.of (s47 _ _ h4)⟩, _, rfl, lo, _, _, rfl, rfl, s47 _ _ h4, ?_, _, _, rfl, ?_, (s4.trans s47).put hlo, p7.upd rfl⟩
          · rw [List.length_map]
            exact Nat.lt_of_lt_of_le (show _ < 1000 by omega) (line1000 (Nat.le_refl _))
          · rw [openM_succ, oi, hf, if_pos ⟨rfl, rfl⟩, List.map_append]
            show upd _ lo _ lo = some (.lst (_ ++ [V.int (k : Int)]))
            rw [upd_same, Int.zero_add]
    · rintro σ H4 ⟨v4, v5, rfl, h4, s4, p4⟩
      refine ⟨_, rfl, q lo H4 s4 p4 hlo ?_⟩
      rw [h4]
      have : ((xs.length : Nat) : Int).toNat = g.length := by omega
      rw [this]
theorem sc__law_row : FnScope ["_law_grammar_here", "_law_cells", "_law_room", "_law_shorts_here", "_law_waiting", "_law_row_here", "_law_held", "_law_part", "_law_number", "_law_some", "_law_beneath"] ["_law_grammar_here", "_law_cells", "_law_room"] (defScope s__law_row) := ⟨rfl, rfl, rfl, by decide +kernel, rfl, by decide +kernel, by decide +kernel⟩
theorem ok__law_row {f : Addr} {fd : FuncData} (F : Fun K "_law_row" "_law_row" s__law_row f fd) (T : Txt K mg C) (U__law_shorts : Used P w K mg CX0 1 "_law_shorts" ["_law_grammar_here"] (spShorts)) (U__law_open : Used P w K mg CX0 2 "_law_open" ["_law_grammar_here", "_law_shorts_here", "_law_name", "_law_most"] (spOpenM)) (U__law_need : Used P w K mg CX0 1 "_law_need" ["_law_parts_here"] (spNeed)) : FnOk P w K mg base CX0 3 f fd ["_law_grammar_here", "_law_cells", "_law_room"] (spRowM K) := by
  obtain ⟨f__law_shorts, fd__law_shorts, G__law_shorts, m__law_shorts, k__law_shorts, b__law_shorts⟩ := U__law_shorts.ok
  obtain ⟨f__law_open, fd__law_open, G__law_open, m__law_open, k__law_open, b__law_open⟩ := U__law_open.ok
  obtain ⟨f__law_need, fd__law_need, G__law_need, m__law_need, k__law_need, b__law_need⟩ := U__law_need.ok
  refine F.ok sc__law_row (fun vs H Q E h => ?_) (fun cdv A outer s H vs Q E hr h => ?_)
  · obtain ⟨l, c, xs, g, ns, R, rfl, _⟩ := h
    rfl
  · obtain ⟨l, c, xs, g, ns, R, rfl, hR2, hR, hl, hds, hg, hgk, hS, hns, hp, q⟩ := h
    have hu := hu_of hr
    have hU := hr.units
    refine ⟨_, (pss_cons (ps_set (i := 3) sc__law_row.nd rfl (Or.inl rfl) (pe_call (G__law_shorts base) (hr.mono (by decide)) (by rfl) m__law_shorts k__law_shorts b__law_shorts .nil pass0 (pa_cons (pv 0) pa_nil)))
      (pss_cons (ps_set (i := 4) sc__law_row.nd rfl (Or.inl rfl) (pe_lst (pa_cons (pe_ix (ix_tupK K rfl) (pe_ix (ix_listK K rfl) (pv 0) pe_int (fun _ _ => rfl)) pe_int (fun _ _ => rfl)) pa_nil)))
      (pss_cons (ps_set (i := 5) sc__law_row.nd rfl (Or.inl rfl) (pe_lst pa_nil))
      (pss_cons (ps_set (i := 6) sc__law_row.nd rfl (Or.inl rfl) pe_int)
      (pss_cons (ps_while PassesOwn.never (pt_cmpR (op_ne_deep K rfl hU) (pv 4) (pe_lst pa_nil) (nomark _)) (pss_cons (ps_set (i := 7) sc__law_row.nd rfl (Or.inl rfl) (pe_bm0K K rfl PySem.F.plainAttrs_list PySem.F.slot_list_pop PySem.F.type_list_pop mt_pop (pv 4)))
      (pss_one (ps_if (pt_cmpR op_eq (pe_ix ix_str (pv 7) pe_int (fun _ _ => rfl)) pe_str (nomark _)) (pss_one (ps_set (i := 6) sc__law_row.nd rfl (Or.inl rfl) (pe_op op_add (pv 6) pe_int))) (pss_cons (ps_set (i := 8) sc__law_row.nd rfl (Or.inl rfl) (pe_dget hu (pv 3) (pv 7) (fun _ _ => rfl)))
      (pss_cons (ps_if (pt_cmpR op_lt (pe_callB (call_len_seqK K rfl) (by rfl) T.z_len PyProof.Rows.Boot.«len» (pa_cons (pv 5) pa_nil)) (pe_callB (call_len_seqK K rfl) (by rfl) T.z_len PyProof.Rows.Boot.«len» (pa_cons (pv 1) pa_nil)) (nomark _)) (pss_cons (ps_set (i := 9) sc__law_row.nd rfl (Or.inl rfl) (pe_call (G__law_open base) (hr.mono (by decide)) (by rfl) m__law_open k__law_open b__law_open .nil pass0 (pa_cs (pv 0) (pa_cs (pv 3) (pa_cs (pv 7) (pa_cs (pe_op op_sub (pe_op op_sub (pv 2) (pv 6)) (pe_call (G__law_need base) (hr.mono (by decide)) (by rfl) m__law_need k__law_need b__law_need .nil pass0 (pa_cons (pv 4) pa_nil))) pa_nil))))))
      (pss_one (ps_set (i := 8) sc__law_row.nd rfl (Or.inl rfl) (pe_ix (ix_listK K rfl) (pv 9) (pe_op op_mod (pe_ix (ix_listK K rfl) (pv 1) (pe_callB (call_len_seqK K rfl) (by rfl) T.z_len PyProof.Rows.Boot.«len» (pa_cons (pv 5) pa_nil)) (fun _ _ => rfl)) (pe_callB (call_len_seqK K rfl) (by rfl) T.z_len PyProof.Rows.Boot.«len» (pa_cons (pv 9) pa_nil))) (fun _ _ => rfl))))) pss_nil)
      (pss_cons (ps_expr (pe_bmK K rfl PySem.F.plainAttrs_list PySem.F.slot_list_append PySem.F.type_list_append mt_append (pv 5) (pa_cons (pv 8) pa_nil)))
      (pss_one (ps_for PassesOwn.never rfl (pi_revT K rfl rfl T.z_reversed (pa_cons (pe_ix (ix_tupK K rfl) (pe_ix (ix_listK K rfl) (pv 0) (pv 8) (fun _ _ => rfl)) pe_int (fun _ _ => rfl)) pa_nil)) (pg_name (i := 10) sc__law_row.nd rfl (Or.inl rfl)) (pss_one (ps_expr (pe_bmK K rfl PySem.F.plainAttrs_list PySem.F.slot_list_append PySem.F.type_list_append mt_append (pv 4) (pa_cons (pv 10) pa_nil)))))))))))))
      (pss_one (ps_ret (pv 5)))))))), ?_⟩
    obtain ⟨hgne, hgsh, nm, n4, hgnm, _⟩ := hgk
    obtain ⟨r0, rest, eg⟩ : ∃ r0 rest, g = r0 :: rest := by
      cases g with
      | nil => exact absurd rfl hgne
      | cons a b => exact ⟨a, b, rfl⟩
    have er0 : g[0]? = some r0 := by rw [eg]; rfl
    have hxl : xs.length = g.length := by rw [hds.len, List.length_map]
    refine ⟨_, rfl, l, xs, g, rfl, hl, hds, hg, hp, fun d e H1 he hcomp s1 p1 hd0 hd => ?_⟩
    have hkeys : ∀ r ∈ g, r.1 ∈ e.map (·.1) := fun r hr' => by
      obtain ⟨r', hr2, e1, e2, e3⟩ := hgsh r hr'
      rw [← e1]
      exact hcomp r' hr2 e2 e3
    obtain ⟨t0, p0, ax0, ht0, _⟩ := rule_num (hds.same s1) er0
    refine ⟨_, rfl, l, _, 0, _, rfl, rfl, SqL.of (s1 _ _ hl), ax0, t0, _, 0, _, rfl, rfl, SqT.of ht0, rfl, line1000 (by show 1 ≤ 1000; decide), fun lw hlw => ?_⟩
    refine ⟨Nat.zero_le _, fun lr hlr => ?_⟩
    have hlw0 : H lw = none := s1.free hlw
    have s2 := Same.upd (o := .lst [V.str r0.1]) hlw
    have hlr0 : H lr = none := s1.free (s2.free hlr)
    have nrw : lr ≠ lw := fun z => by rw [z, upd_same] at hlr; cases hlr
    have s3 := Same.upd (o := .lst []) hlr
    have hw4 : upd (upd H1 lw (.lst [V.str r0.1])) lr (.lst []) lw = some (.lst ([r0.1].map V.str)) := s3 _ _ upd_same
    have hr4 : upd (upd H1 lw (.lst [V.str r0.1])) lr (.lst []) lr = some (.lst (([] : List Nat).map nV)) := upd_same
    have p4 : Plain (upd (upd H1 lw (.lst [V.str r0.1])) lr (.lst [])) := (p1.upd rfl).upd rfl
    have s4 := s2.trans s3
    have hd4 := s4 _ _ hd
    have s04 := s1.trans s4
    revert hw4 hr4 p4 s4 hd4 s04
    generalize upd (upd H1 lw (.lst [V.str r0.1])) lr (.lst []) = H4
    intro hw4 hr4 p4 s4 hd4 s04
    have dlw : d ≠ lw := fun z => by rw [z] at hd; rw [hd] at hlw; cases hlw
    have dlr : d ≠ lr := fun z => by rw [← z, s2 _ _ hd] at hlr; cases hlr
    have hname0 := rule_head (rule_okB hg er0)
    refine ⟨fun μ σ H5 => ∃ (ks : List Nat) (zs : List Str) (sg : List Nat) (v7 v8 v9 v10 : Option V), σ = [some (.ref l), some (.ref c), some (.int (R : Int)), some (.ref d), some (.ref lw), some (.ref lr), some (.int (sg.length : Int)), v7, v8, v9, v10] ∧ H5 lw = some (.lst (zs.map V.str)) ∧ H5 lr = some (.lst (ks.map nV)) ∧ H5 d = some (.dK (szD e)) ∧ (∀ z ∈ zs, isPartS z = true ∧ (isQ z = false → z ∈ e.map (·.1))) ∧
        (∀ ks' sg', RowS g zs.reverse ks' sg' → RowS g [r0.1] (ks ++ ks') (sg ++ sg')) ∧ sg.length + needN zs ≤ R ∧ (unQ zs).length + ks.length ≤ ns.length + 60 ∧ μ = (ns.length - ks.length) * 200 + (needN zs + (unQ zs).length) ∧ Same H H5 ∧ Plain H5,
      ⟨_, [], [r0.1], [], none, none, none, none, rfl, hw4, hr4, hd4, fun z hz => ?_, fun ks' sg' h => h, ?_, ?_, rfl, s04, p4⟩, ?_⟩
    · rw [List.mem_singleton.mp hz]
      exact ⟨name_partB hname0, fun _ => hkeys r0 (List.mem_of_getElem? er0)⟩
    · rw [needN_name (name_noQ hname0)]
      exact (show 0 + 2 ≤ R by omega)
    · rw [unQ_len1 (name_noQ hname0)]
      show 1 + 0 ≤ _
      omega
    rintro μ σ H5 ⟨ks, zs, sg, v7, v8, v9, v10, rfl, hw5, hr5, hd5, hzs, hrow, hneed, hcnt, hμ, s5, p5⟩
    refine ⟨_, rfl, Nat.zero_le _, fun le hle => ?_⟩
    have s6 := Same.upd (o := .lst []) hle
    refine ⟨_, _, .lst (.inl (s6 _ _ hw5)) (Dens.strs zs), .lst (.inl upd_same) .nil, ok_strs _, rfl, dep_strs _, _, rfl, ?_⟩
    rw [eqD_nil]
    have hw6 := s6 _ _ hw5
    have hr6 := s6 _ _ hr5
    have hd6 := s6 _ _ hd5
    have s06 := s5.trans s6
    have p6 : Plain (upd H5 le (.lst [])) := p5.upd rfl
    revert hw6 hr6 hd6 s06 p6
    generalize upd H5 le (.lst []) = H6
    intro hw6 hr6 hd6 s06 p6
    rcases List.eq_nil_or_concat zs with hz | ⟨zs', z, hz⟩
    · subst hz
      rw [decide_eq_true rfl]
      refine iteF ⟨_, rfl, q lr r0 rest ks sg H6 eg ?_ (by omega) (by omega) s06 p6 hlr0 hr6⟩
      have := hrow [] [] .nil
      rw [List.append_nil, List.append_nil] at this
      exact this
    rw [List.concat_eq_append] at hz
    subst hz
    rw [decide_eq_false (by simp)]
    refine iteT ⟨_, fun _ _ h => h, ?_⟩
    have elast : ((zs' ++ [z]).map V.str)[((zs' ++ [z]).map V.str).length - 1]? = some (.str z) := by
      rw [List.map_append, List.length_append]
      show (_ ++ [V.str z])[_ + 1 - 1]? = _
      rw [Nat.add_sub_cancel, List.getElem?_append_right (Nat.le_refl _), Nat.sub_self]
      rfl
    have edrop : ((zs' ++ [z]).map V.str).dropLast = zs'.map V.str := by rw [List.map_append]; exact List.dropLast_concat
    refine ⟨_, rfl, .inl ⟨rfl, _, SqL.of hw6⟩, lw, _, _, rfl, rfl, hw6, elast, ?_⟩
    rw [edrop]
    have s07 : Same H (upd H6 lw (.lst (zs'.map V.str))) := s06.put hlw0
    have w7 : upd H6 lw (.lst (zs'.map V.str)) lw = some (.lst (zs'.map V.str)) := upd_same
    have r7 : upd H6 lw (.lst (zs'.map V.str)) lr = some (.lst (ks.map nV)) := by rw [upd_ne nrw]; exact hr6
    have d7 : upd H6 lw (.lst (zs'.map V.str)) d = some (.dK (szD e)) := by rw [upd_ne dlw]; exact hd6
    have p7 : Plain (upd H6 lw (.lst (zs'.map V.str))) := p6.upd rfl
    revert s07 w7 r7 d7 p7
    generalize upd H6 lw (.lst (zs'.map V.str)) = H7
    intro s07 w7 r7 d7 p7
    obtain ⟨hzp, hzk⟩ := hzs z (List.mem_append_right _ (List.mem_singleton.mpr rfl))
    have hzs' : ∀ x ∈ zs', isPartS x = true ∧ (isQ x = false → x ∈ e.map (·.1)) := fun x hx => hzs x (List.mem_append_left _ hx)
    rw [needN_app] at hneed hμ
    rw [unQ_app2, List.length_append] at hcnt hμ
    rw [List.reverse_append] at hrow
    have hrow : ∀ ks' sg', RowS g (z :: zs'.reverse) ks' sg' → RowS g [r0.1] (ks ++ ks') (sg ++ sg') := hrow
    obtain ⟨ch, hc, hlz, hdec⟩ := part_first hzp
    refine ⟨_, rfl, z, 0, ch, rfl, rfl, line1000 (by omega), hc, rfl, _, rfl, ?_⟩
    rw [hdec]
    by_cases hq : isQ z = true
    · rw [hq]
      rw [needN_sign hq] at hneed hμ
      have ei : (sg.length : Int) + 1 = ((sg ++ [sgn z]).length : Int) := by rw [List.length_append]; rfl
      refine ⟨_, rfl, _, _, rfl, rfl, ?_⟩
      refine ⟨_, ?_, ks, zs', sg ++ [sgn z], _, _, _, _, by rw [← ei]; rfl, w7, r7, d7, hzs', fun ks' sg' h => ?_, by rw [List.length_append]; show sg.length + 1 + _ ≤ _; omega, by omega, rfl, s07, p7⟩
      · rw [hμ]
        omega
      · have := hrow ks' (sgn z :: sg') (.sign hq h)
        rw [List.append_assoc]
        exact this
    · have hq' : isQ z = false := Bool.eq_false_iff.mpr hq
      rw [hq']
      rw [needN_name hq'] at hneed hμ
      rw [unQ_len1 hq'] at hcnt hμ
      obtain ⟨k0, hk0⟩ := look_some (hzk hq')
      obtain ⟨kk, rs, rfl, ers, ezs, hall, h2⟩ := he.at_ z k0 hk0
      refine ⟨_, rfl, _, rfl, d, .int (kk : Int), rfl, dget_szB d7 hk0, ?_⟩
      have hns' := need_signs hall
      dsimp only [gName]
      refine seq_rest (t := tIfS _ _ _) (fun σ' H' => ∃ (k : Nat) (r : Rule) (v9 : Option V), σ' = [some (.ref l), some (.ref c), some (.int (R : Int)), some (.ref d), some (.ref lw), some (.ref lr), some (.int (sg.length : Int)), some (.str z), some (.int (k : Int)), v9, v10] ∧ g[k]? = some r ∧ r.1 = z ∧ (∀ p ∈ r.2.1, isQ p = false → p ∈ e.map (·.1)) ∧ sg.length + needN zs' + needN r.2.1 ≤ R ∧ (ks.length < ns.length ∨ (needN r.2.1 ≤ 2 ∧ unQ r.2.1 = [])) ∧ Same H7 H' ∧ Plain H') ?_ fun rest' => ?_
      · rintro σ H8 ⟨k, r, v9, rfl, er, erz, hpk, hrn, hor, s8, p8⟩
        have hok := rule_parts (rule_okB hg er)
        obtain ⟨t, pp, ax, ht, hpp⟩ := rule_num ((hds.same s07).same s8) er
        refine ⟨_, rfl, .inl ⟨rfl, _, SqL.of (s8 _ _ r7)⟩, _, rfl, lr, _, _, rfl, rfl, s8 _ _ r7, by rw [List.length_map, sizeLine_eq]; omega, ?_⟩
        have er9 : ks.map nV ++ [V.int (k : Int)] = (ks ++ [k]).map nV := by rw [List.map_append]; rfl
        rw [er9]
        have s9 : Same H (upd H8 lr (.lst ((ks ++ [k]).map nV))) := (s07.trans s8).put hlr0
        have w9 : upd H8 lr (.lst ((ks ++ [k]).map nV)) lw = some (.lst (zs'.map V.str)) := by rw [upd_ne nrw.symm]; exact s8 _ _ w7
        have r9 : upd H8 lr (.lst ((ks ++ [k]).map nV)) lr = some (.lst ((ks ++ [k]).map nV)) := upd_same
        have d9 : upd H8 lr (.lst ((ks ++ [k]).map nV)) d = some (.dK (szD e)) := by rw [upd_ne dlr]; exact s8 _ _ d7
        have p9 : Plain (upd H8 lr (.lst ((ks ++ [k]).map nV))) := p8.upd rfl
        have ht9 : upd H8 lr (.lst ((ks ++ [k]).map nV)) t = some (.tup [.str r.1, .ref pp, .int r.2.2]) := by
          rw [upd_ne (fun z => by rw [z, s8 _ _ r7] at ht; cases ht)]
          exact ht
        have hp9 : upd H8 lr (.lst ((ks ++ [k]).map nV)) pp = some (.tup (r.2.1.map V.str)) := by
          rw [upd_ne (fun z => by rw [z, s8 _ _ r7] at hpp; cases hpp)]
          exact hpp
        revert s9 w9 r9 d9 p9 ht9 hp9
        generalize upd H8 lr (.lst ((ks ++ [k]).map nV)) = H9
        intro s9 w9 r9 d9 p9 ht9 hp9
        refine ⟨_, rfl, _, rfl, l, _, _, _, rfl, rfl, SqL.of (s9 _ _ hl), ax, t, _, 1, _, rfl, rfl, SqT.of ht9, rfl, pp, _, rfl, SqT.of hp9, ?_⟩
        have h6 := hok.1
        have hlz' := len_need zs'
        have npw : pp ≠ lw := fun z => by rw [z, w9] at hp9; cases hp9
        refine for_revT (K := K) (a := pp) (xs := r.2.1.map V.str) (fun i σ H6 => ∃ v10, σ = [some (.ref l), some (.ref c), some (.int (R : Int)), some (.ref d), some (.ref lw), some (.ref lr), some (.int (sg.length : Int)), some (.str z), some (.int (k : Int)), v9, v10] ∧ H6 lw = some (.lst ((zs' ++ r.2.1.reverse.take i).map V.str)) ∧ H6 lr = some (.lst ((ks ++ [k]).map nV)) ∧ H6 d = some (.dK (szD e)) ∧ H6 pp = some (.tup (r.2.1.map V.str)) ∧ Same H H6 ∧ Plain H6)
          ⟨v10, rfl, by rw [List.take_zero, List.append_nil]; exact w9, r9, d9, hp9, s9, p9⟩ ?_ ?_ ?_
        · rintro i σ Hx _ ⟨_, rfl, _, _, _, hpx, _, _⟩
          exact SqT.of hpx
        · rintro i y σ Hx hi ⟨v10, rfl, wx, rx, dx, hpx, sx, px⟩
          rw [← List.map_reverse, List.getElem?_map] at hi
          cases ex : r.2.1.reverse[i]? with
          | none => rw [ex] at hi; cases hi
          | some x =>
            rw [ex] at hi
            cases hi
            have et : r.2.1.reverse.take (i + 1) = r.2.1.reverse.take i ++ [x] := by rw [List.take_add_one, ex]; rfl
            refine ⟨_, rfl, .inl ⟨rfl, _, SqL.of wx⟩, _, rfl, lw, _, _, rfl, rfl, wx, by rw [List.length_map, List.length_append, List.length_take, List.length_reverse, sizeLine_eq]; omega, _, rfl, ?_, by rw [upd_ne nrw]; exact rx, by rw [upd_ne dlw]; exact dx, by rw [upd_ne npw]; exact hpx, sx.put hlw0, px.upd rfl⟩
            rw [upd_same, et, ← List.append_assoc, List.map_append (l₂ := [x])]
            rfl
        · rintro σ Hx ⟨v10, rfl, wx, rx, dx, hpx, sx, px⟩
          have eall : r.2.1.reverse.take (r.2.1.map V.str).length = r.2.1.reverse := by rw [List.length_map, ← List.length_reverse (as := r.2.1), List.take_length]
          rw [eall] at wx
          have hun := unQ_le (zs' ++ r.2.1.reverse)
          have hun' := unQ_le r.2.1
          rw [needN_app, needN_rev] at hun
          have eu : (unQ (zs' ++ r.2.1.reverse)).length = (unQ zs').length + (unQ r.2.1).length := by rw [unQ_app2, List.length_append, unQ_rev]
          have en2 : needN (zs' ++ r.2.1.reverse) = needN zs' + needN r.2.1 := by rw [needN_app, needN_rev]
          have ekl : (ks ++ [k]).length = ks.length + 1 := by rw [List.length_append]; rfl
          refine ⟨_, ?_, ks ++ [k], zs' ++ r.2.1.reverse, sg, _, _, _, _, rfl, wx, rx, dx, fun x hx => ?_, fun ks' sg' h => ?_, by omega, ?_, rfl, sx, px⟩
          · rw [hμ, en2, eu, ekl]
            rcases hor with hor | ⟨ho1, ho2⟩
            · have : (ns.length - ks.length) * 200 = (ns.length - (ks.length + 1)) * 200 + 200 := by omega
              omega
            · rw [ho2]
              show _ + (_ + ((unQ zs').length + 0)) < _
              omega
          · rcases List.mem_append.mp hx with hx | hx
            · exact hzs' x hx
            · exact ⟨hok.2 x (List.mem_reverse.mp hx), hpk x (List.mem_reverse.mp hx)⟩
          · rw [List.reverse_append, List.reverse_reverse] at h
            have := hrow (k :: ks') sg' (by rw [← erz]; exact .name (by rw [erz]; exact hq') er h)
            rw [List.append_assoc]
            exact this
          · rw [eu, ekl]
            rcases hor with hor | ⟨ho1, ho2⟩
            · omega
            · rw [ho2]
              show (unQ zs').length + 0 + _ ≤ _
              omega
      · refine ⟨_, rfl, lr, _, rfl, .inl (SqL.of r7), _, rfl, c, _, rfl, .inl (s07.seq hS), _, _, rfl, rfl, _, rfl, ?_⟩
        rw [List.length_map, List.length_map]
        by_cases hcl : ks.length < ns.length
        case neg =>
          rw [decide_eq_false (by omega)]
          refine iteF (rest' _ _ ⟨kk, rs, _, rfl, ers, ezs, (fun p hp h => by rw [hall p hp] at h; cases h), by rw [hns'.1]; omega, .inr ⟨by rw [hns'.1]; exact h2, hns'.2⟩, Same.refl _, p7⟩)
        rw [decide_eq_true (by omega)]
        refine iteT ⟨_, rfl, _, rfl, _, rfl, _, rfl, _, rfl, _, _, rfl, rfl, _, rfl, lw, zs', rfl, .inl w7, fun x hx => (hzs' x hx).1, ?_, p7, fun H8 s8 p8 => ⟨_, _, rfl, rfl, ?_⟩⟩
        · have := len_need zs'
          omega
        have s08 := s07.trans s8
        refine ⟨l, d, xs, g, e, z, _, rfl, s08 _ _ hl, hds.same s08, hg, s8 _ _ d7, p8, fun lo H9 s9 p9 ho0 ho => ?_⟩
        have s09 := s08.trans s9
        obtain ⟨M, eM⟩ : ∃ M, openM g e z ((R : Int) - (sg.length : Int) - (needN zs' : Nat)) g.length = M := ⟨_, rfl⟩
        rw [eM] at ho
        have hkkM : kk ∈ M := by
          rw [← eM]
          unfold openM
          rw [List.mem_filter]
          refine ⟨openL_of ers ezs (fun p hp h => by rw [hall p hp] at h; cases h), ?_⟩
          rw [fitB_at ers, hns'.1]
          exact decide_eq_true (by omega)
        have hMl : 0 < M.length := List.length_pos_of_mem hkkM
        have sqM : SqL K H9 lo (M.map nV) := SqL.of ho
        have sqr : SqL K H9 lr (ks.map nV) := SqL.of ((s8.trans s9) _ _ r7)
        have ac : atI (ns.map V.int) ((ks.map nV).length : Nat) = some (.int ns[ks.length]) := by
          rw [List.length_map]
          exact atI_nat (by rw [List.getElem?_map, List.getElem?_eq_getElem hcl]; rfl)
        obtain ⟨y, hy, hym⟩ := atI_some (xs := M.map nV) (i := ns[ks.length] % ((M.map nV).length : Nat)) (Int.emod_nonneg _ (by rw [List.length_map]; omega)) (Int.emod_lt_of_pos _ (by rw [List.length_map]; omega))
        obtain ⟨k, hkM, rfl⟩ := List.mem_map.mp hym
        rw [← eM] at hkM
        unfold openM at hkM
        rw [List.mem_filter] at hkM
        obtain ⟨r, er, erz, hin⟩ := openL_mem hkM.1
        have hf := hkM.2
        rw [fitB_at er] at hf
        have hf := of_decide_eq_true hf
        refine ⟨_, rfl, _, rfl, _, rfl, lr, _, rfl, .inl sqr, c, _, _, _, rfl, rfl, s09.seq hS, ac, _, rfl, lo, _, rfl, .inl sqM, _, _, rfl, rfl, (by rw [List.length_map]; show (0 : Int) < _; omega), lo, _, _, _, rfl, rfl, sqM, hy, ?_⟩
        exact rest' _ _ ⟨k, r, _, rfl, er, erz, hin, by omega, .inl hcl, s8.trans s9, p9⟩

theorem sc__law_read : FnScope ["_law_grammar_here", "_law_row_here", "_law_waiting", "_law_signs_here", "_law_at", "_law_part", "_law_beneath"] ["_law_grammar_here", "_law_row_here"] (defScope s__law_read) := ⟨rfl, rfl, rfl, by decide +kernel, rfl, by decide +kernel, by decide +kernel⟩
theorem ok__law_read {f : Addr} {fd : FuncData} (F : Fun K "_law_read" "_law_read" s__law_read f fd) (T : Txt K mg C) : FnOk P w K mg base CX0 1 f fd ["_law_grammar_here", "_law_row_here"] (spRead) := by
  refine F.ok sc__law_read (fun vs H Q E h => ?_) (fun cdv A outer s H vs Q E hr h => ?_)
  · obtain ⟨l, o, xs, r0, rest, ks, sg, rfl, _⟩ := h
    rfl
  · obtain ⟨l, o, xs, r0, rest, ks, sg, rfl, hl, hds, hg, ho, hrow, hkl, hp, q⟩ := h
    have hU := hr.units
    refine ⟨_, (pss_cons (ps_set (i := 2) sc__law_read.nd rfl (Or.inl rfl) (pe_lst (pa_cons (pe_ix (ix_tupK K rfl) (pe_ix (ix_listK K rfl) (pv 0) pe_int (fun _ _ => rfl)) pe_int (fun _ _ => rfl)) pa_nil)))
      (pss_cons (ps_set (i := 3) sc__law_read.nd rfl (Or.inl rfl) pe_str)
      (pss_cons (ps_set (i := 4) sc__law_read.nd rfl (Or.inl rfl) pe_int)
      (pss_cons (ps_while PassesOwn.never (pt_cmpR (op_ne_deep K rfl hU) (pv 2) (pe_lst pa_nil) (nomark _)) (pss_cons (ps_set (i := 5) sc__law_read.nd rfl (Or.inl rfl) (pe_bm0K K rfl PySem.F.plainAttrs_list PySem.F.slot_list_pop PySem.F.type_list_pop mt_pop (pv 2)))
      (pss_one (ps_if (pt_cmpR op_eq (pe_ix ix_str (pv 5) pe_int (fun _ _ => rfl)) pe_str (nomark _)) (pss_one (ps_set (i := 3) sc__law_read.nd rfl (Or.inl rfl) (pe_op op_add_str (pv 3) (pe_ix ix_str (pv 5) pe_int (fun _ _ => rfl))))) (pss_cons (ps_if (PW.pt (pw_or (pt_cmpR op_ge (pv 4) (pe_callB (call_len_seqK K rfl) (by rfl) T.z_len PyProof.Rows.Boot.«len» (pa_cons (pv 1) pa_nil)) (nomark _)) (pw_or (pt_not (pt_chain op_le op_lt pe_int (pe_ix (ix_listK K rfl) (pv 1) (pv 4) (fun _ _ => rfl)) (pe_callB (call_len_seqK K rfl) (by rfl) T.z_len PyProof.Rows.Boot.«len» (pa_cons (pv 0) pa_nil)))) (pw_or1 (pt_cmpR op_ne (pe_ix (ix_tupK K rfl) (pe_ix (ix_listK K rfl) (pv 0) (pe_ix (ix_listK K rfl) (pv 1) (pv 4) (fun _ _ => rfl)) (fun _ _ => rfl)) pe_int (fun _ _ => rfl)) (pv 5) (nomark _)))))) (pss_one (ps_ret pe_non)) pss_nil)
      (pss_cons (ps_for PassesOwn.never rfl (pi_revT K rfl rfl T.z_reversed (pa_cons (pe_ix (ix_tupK K rfl) (pe_ix (ix_listK K rfl) (pv 0) (pe_ix (ix_listK K rfl) (pv 1) (pv 4) (fun _ _ => rfl)) (fun _ _ => rfl)) pe_int (fun _ _ => rfl)) pa_nil)) (pg_name (i := 6) sc__law_read.nd rfl (Or.inl rfl)) (pss_one (ps_expr (pe_bmK K rfl PySem.F.plainAttrs_list PySem.F.slot_list_append PySem.F.type_list_append mt_append (pv 2) (pa_cons (pv 6) pa_nil)))))
      (pss_one (ps_set (i := 4) sc__law_read.nd rfl (Or.inl rfl) (pe_op op_add (pv 4) pe_int)))))))))
      (pss_cons (ps_if (pt_cmpR op_lt (pv 4) (pe_callB (call_len_seqK K rfl) (by rfl) T.z_len PyProof.Rows.Boot.«len» (pa_cons (pv 1) pa_nil)) (nomark _)) (pss_one (ps_ret pe_non)) pss_nil)
      (pss_one (ps_ret (pv 3)))))))), ?_⟩
    have hxl : xs.length = (r0 :: rest).length := by rw [hds.len, List.length_map]
    have s1 : Same H H := Same.refl _
    have p1 : Plain H := hp
    have hpart0 : isPartS r0.1 = true := name_partB (rule_head (rule_okB hg (i := 0) rfl))
    have hg0 : (r0 :: rest)[0]? = some r0 := rfl
    obtain ⟨g, eg⟩ : ∃ g, r0 :: rest = g := ⟨_, rfl⟩
    rw [eg] at hds hg hrow hxl hg0
    obtain ⟨t0, p0, ax0, ht0, _⟩ := rule_num hds hg0
    refine ⟨_, rfl, l, _, 0, _, rfl, rfl, SqL.of (s1 _ _ hl), ax0, t0, _, 0, _, rfl, rfl, SqT.of (s1 _ _ ht0), rfl, line1000 (by show 1 ≤ 1000; decide), fun lw hlw => ?_⟩
    have hlw0 : H lw = none := s1.free hlw
    have s2 := s1.trans (Same.upd (o := .lst [.str r0.1]) hlw)
    have w2 : upd H lw (.lst [.str r0.1]) lw = some (.lst ([r0.1].map V.str)) := upd_same
    have p2 : Plain (upd H lw (.lst [.str r0.1])) := p1.upd rfl
    revert s2 w2 p2
    generalize upd H lw (.lst [.str r0.1]) = H2
    intro s2 w2 p2
    have e0 : (("" : Str)) = ⟨([] : List Nat).toArray⟩ := by decide +kernel
    rw [e0]
    refine ⟨fun μ σ H3 => ∃ (zs : List Str) (s1 s2 : List Nat) (at_ : Nat) (v5 v6 : Option V), σ = [some (.ref l), some (.ref o), some (.ref lw), some (.str ⟨s1.toArray⟩), some (.int (at_ : Int)), v5, v6] ∧ H3 lw = some (.lst (zs.map V.str)) ∧ (∀ x ∈ zs, isPartS x = true) ∧ RowS g zs.reverse (ks.drop at_) s2 ∧ s1 ++ s2 = sg ∧ at_ ≤ ks.length ∧ s1.length + zs.length ≤ 1 + 6 * at_ ∧ μ = 7 * (ks.length - at_) + zs.length ∧ Same H H3 ∧ Plain H3,
      ⟨_, [r0.1], [], sg, 0, none, none, rfl, w2, fun x hx => by rw [List.mem_singleton.mp hx]; exact hpart0, hrow, rfl, Nat.zero_le _, (show 0 + 1 ≤ 1 by decide), rfl, s2, p2⟩, ?_⟩
    rintro μ σ H3 ⟨zs, c1, c2, at_, v5, v6, rfl, w3, hz3, hrow3, hcc, hat, hlen3, hμ, s3, p3⟩
    refine ⟨_, rfl, Nat.zero_le _, fun le2 hle2 => ?_⟩
    have s4 := Same.upd (o := .lst []) hle2
    refine ⟨_, _, .lst (.inl (s4 _ _ w3)) (Dens.strs zs), .lst (.inl upd_same) .nil, ok_strs _, rfl, dep_strs _, _, rfl, ?_⟩
    rw [eqD_nil]
    have w4 := s4 _ _ w3
    have s04 := s3.trans s4
    have p4 : Plain (upd H3 le2 (.lst [])) := p3.upd rfl
    revert w4 s04 p4
    generalize upd H3 le2 (.lst []) = H4
    intro w4 s04 p4
    rcases List.eq_nil_or_concat zs with hz | ⟨zs', z, hz⟩
    · subst hz
      rw [decide_eq_true rfl]
      refine iteF ?_
      obtain ⟨h1, h2⟩ := rowS_nil hrow3
      have hend : ks.length ≤ at_ := List.drop_eq_nil_iff.mp h1
      refine ⟨_, rfl, _, rfl, o, _, rfl, .inl (SqL.of (s04 _ _ ho)), _, _, rfl, rfl, _, rfl, ?_⟩
      rw [decide_eq_false (by rw [List.length_map]; omega)]
      rw [h2, List.append_nil] at hcc
      rw [hcc]
      exact iteF ⟨_, rfl, q H4 s04 p4⟩
    rw [List.concat_eq_append] at hz
    subst hz
    rw [decide_eq_false (by simp)]
    refine iteT ⟨_, fun _ _ h => h, ?_⟩
    have elast : ((zs' ++ [z]).map V.str)[((zs' ++ [z]).map V.str).length - 1]? = some (.str z) := by
      rw [List.map_append, List.length_append]
      show (_ ++ [V.str z])[_ + 1 - 1]? = _
      rw [Nat.add_sub_cancel, List.getElem?_append_right (Nat.le_refl _), Nat.sub_self]
      rfl
    have edrop : ((zs' ++ [z]).map V.str).dropLast = zs'.map V.str := by rw [List.map_append]; exact List.dropLast_concat
    refine ⟨_, rfl, .inl ⟨rfl, _, SqL.of w4⟩, lw, _, _, rfl, rfl, w4, elast, ?_⟩
    rw [edrop]
    have s05 : Same H (upd H4 lw (.lst (zs'.map V.str))) := s04.put hlw0
    have w5 : upd H4 lw (.lst (zs'.map V.str)) lw = some (.lst (zs'.map V.str)) := upd_same
    have p5 : Plain (upd H4 lw (.lst (zs'.map V.str))) := p4.upd rfl
    revert s05 w5 p5
    generalize upd H4 lw (.lst (zs'.map V.str)) = H5
    intro s05 w5 p5
    have hzp := hz3 z (List.mem_append_right _ (List.mem_singleton.mpr rfl))
    have hzs' : ∀ x ∈ zs', isPartS x = true := fun x hx => hz3 x (List.mem_append_left _ hx)
    rw [List.length_append] at hlen3 hμ
    have hlen3 : c1.length + (zs'.length + 1) ≤ 1 + 6 * at_ := hlen3
    have hμ : μ = 7 * (ks.length - at_) + (zs'.length + 1) := hμ
    rw [List.reverse_append] at hrow3
    have hrow3 : RowS g (z :: zs'.reverse) (ks.drop at_) c2 := hrow3
    obtain ⟨c, hc, hlz, hdec⟩ := part_first hzp
    refine ⟨_, rfl, z, 0, c, rfl, rfl, line1000 (by omega), hc, rfl, _, rfl, ?_⟩
    rw [hdec]
    by_cases hq : isQ z = true
    · rw [hq]
      obtain ⟨c2', e2, hrow4⟩ := rowS_sign hq hrow3
      have el1 : (⟨c1.toArray⟩ : Str).length = c1.length := rfl
      refine ⟨_, rfl, _, rfl, z, 1, sgn z, rfl, rfl, line1000 (by omega), sign_second hzp hq, ⟨c1.toArray⟩, _, rfl, rfl, by rw [sizeLine_eq, el1]; show c1.length + 1 ≤ _; omega, ?_⟩
      rw [str_snoc]
      refine ⟨_, ?_, zs', c1 ++ [sgn z], c2', at_, _, _, rfl, w5, hzs', hrow4, by rw [← hcc, e2, List.append_assoc]; rfl, hat, by rw [List.length_append]; show c1.length + 1 + _ ≤ _; omega, rfl, s05, p5⟩
      rw [hμ]
      omega
    · have hq' : isQ z = false := Bool.eq_false_iff.mpr hq
      rw [hq']
      obtain ⟨k, row', r, e1, er, hrz, hrow'⟩ := rowS_name hq' hrow3
      have hatl : at_ < ks.length := by
        have := congrArg List.length e1
        rw [List.length_drop, List.length_cons] at this
        omega
      have ek : ks[at_]? = some k ∧ row' = ks.drop (at_ + 1) := by
        rw [List.drop_eq_getElem_cons hatl] at e1
        cases e1
        exact ⟨List.getElem?_eq_getElem hatl, rfl⟩
      have ao : atI (ks.map nV) (at_ : Int) = some (.int (k : Int)) := by
        refine atI_nat (j := at_) ?_
        rw [List.getElem?_map, ek.1]
        rfl
      have hok := rule_okB hg er
      have hkx : k < xs.length := by rw [hxl]; exact (List.getElem?_eq_some_iff.mp er).1
      obtain ⟨tt, pp, ax, ht1, hpp⟩ := rule_num hds er
      have sqo : SqL K H5 o (ks.map nV) := SqL.of (s05 _ _ ho)
      have sql : SqL K H5 l xs := SqL.of (s05 _ _ hl)
      refine ⟨_, rfl, _, rfl, o, _, rfl, .inl sqo, _, _, rfl, rfl, _, rfl, ?_⟩
      rw [decide_eq_false (by rw [List.length_map]; omega)]
      refine iteF ⟨_, rfl, _, rfl, o, _, _, _, rfl, rfl, sqo, ao, _, _, rfl, rfl, _, rfl, ?_⟩
      rw [decide_eq_true (by omega)]
      refine iteT ⟨_, rfl, l, _, rfl, .inl sql, _, _, rfl, rfl, _, rfl, ?_⟩
      rw [decide_eq_true (by omega)]
      refine iteF ⟨_, rfl, _, rfl, _, rfl, o, _, _, _, rfl, rfl, sqo, ao, l, _, _, _, rfl, rfl, sql, ax, tt, _, 0, _, rfl, rfl, SqT.of (s05 _ _ ht1), rfl, _, rfl, rfl, _, rfl, ?_⟩
      rw [decS, decide_eq_true hrz]
      refine iteF ?_
      refine ⟨_, rfl, _, rfl, _, rfl, o, _, _, _, rfl, rfl, sqo, ao, l, _, _, _, rfl, rfl, sql, ax, tt, _, 1, _, rfl, rfl, SqT.of (s05 _ _ ht1), rfl, pp, _, rfl, SqT.of (s05 _ _ hpp), ?_⟩
      have hr6 := (rule_parts hok).1
      refine for_revT (K := K) (a := pp) (xs := r.2.1.map V.str) (fun i σ H6 => ∃ v6, σ = [some (.ref l), some (.ref o), some (.ref lw), some (.str ⟨c1.toArray⟩), some (.int (at_ : Int)), some (.str z), v6] ∧ H6 lw = some (.lst ((zs' ++ r.2.1.reverse.take i).map V.str)) ∧ Same H H6 ∧ Plain H6)
        ⟨v6, rfl, by rw [List.take_zero, List.append_nil]; exact w5, s05, p5⟩ ?_ ?_ ?_
      · rintro i σ H6 _ ⟨_, rfl, _, s6, _⟩
        exact SqT.of (s6 _ _ hpp)
      · rintro i y σ H6 hi ⟨v6, rfl, w6, s6, p6⟩
        rw [← List.map_reverse, List.getElem?_map] at hi
        cases ex : r.2.1.reverse[i]? with
        | none => rw [ex] at hi; cases hi
        | some x =>
          rw [ex] at hi
          cases hi
          have et : r.2.1.reverse.take (i + 1) = r.2.1.reverse.take i ++ [x] := by rw [List.take_add_one, ex]; rfl
          refine ⟨_, rfl, .inl ⟨rfl, _, SqL.of w6⟩, _, rfl, lw, _, _, rfl, rfl, w6, by rw [List.length_map, List.length_append, List.length_take, List.length_reverse, sizeLine_eq]; omega, _, rfl, ?_, s6.put hlw0, p6.upd rfl⟩
          rw [upd_same, et, ← List.append_assoc, List.map_append (l₂ := [x])]
          rfl
      · rintro σ H6 ⟨v6, rfl, w6, s6, p6⟩
        have eall : r.2.1.reverse.take (r.2.1.map V.str).length = r.2.1.reverse := by rw [List.length_map, ← List.length_reverse (as := r.2.1), List.take_length]
        rw [eall] at w6
        refine ⟨_, rfl, _, _, rfl, rfl, ?_⟩
        have ei : (at_ : Int) + 1 = ((at_ + 1 : Nat) : Int) := by omega
        refine ⟨_, ?_, zs' ++ r.2.1.reverse, c1, c2, at_ + 1, _, _, by rw [← ei]; rfl, w6, fun x hx => ?_, ?_, hcc, by omega, ?_, rfl, s6, p6⟩
        · rw [hμ, List.length_append, List.length_reverse]
          omega
        · rcases List.mem_append.mp hx with hx | hx
          · exact hzs' x hx
          · exact (rule_parts hok).2 x (List.mem_reverse.mp hx)
        · rw [List.reverse_append, List.reverse_reverse, ← ek.2]
          exact hrow'
        · rw [List.length_append, List.length_reverse]
          omega
end
end FR


set_option linter.all false
set_option maxRecDepth 100000
set_option maxHeartbeats 4000000
namespace FR
open PySem L2

inductive For (g : Gram) : List Str → List Nat → List Nat → Nat → Prop
  | nil : For g [] [] [] 0
  | sign {p : Str} {ps : List Str} {ks sg : List Nat} {h : Nat} : isQ p = true → For g ps ks sg h → For g (p :: ps) ks (sgn p :: sg) h
  | name {r : Rule} {p : Str} {ps : List Str} {k : Nat} {k1 k2 s1 s2 : List Nat} {h1 h2 : Nat} : r.1 = p → isQ p = false → g[k]? = some r → For g r.2.1 k1 s1 h1 → For g ps k2 s2 h2 → For g (p :: ps) (k :: (k1 ++ k2)) (s1 ++ s2) (max (h1 + 1) h2)
theorem For.split {g : Gram} {y : List Str} : ∀ {x : List Str} {ks sg : List Nat} {h : Nat}, For g (x ++ y) ks sg h → ∃ k1 k2 s1 s2 h1 h2, ks = k1 ++ k2 ∧ sg = s1 ++ s2 ∧ For g x k1 s1 h1 ∧ For g y k2 s2 h2
  | [], ks, sg, h, f => ⟨[], ks, [], sg, 0, h, rfl, rfl, .nil, f⟩
  | p :: x, ks, sg, h, f => by
    have f : For g (p :: (x ++ y)) ks sg h := f
    cases f with
    | sign hq f1 =>
      obtain ⟨k1, k2, s1, s2, h1, h2, rfl, rfl, a, b⟩ := f1.split
      exact ⟨k1, k2, _, s2, h1, h2, rfl, rfl, .sign hq a, b⟩
    | name e hq hk f1 f2 =>
      obtain ⟨k1, k2, s1, s2, h1, h2, rfl, rfl, a, b⟩ := f2.split
      exact ⟨_, k2, _, s2, _, h2, by rw [List.cons_append, List.append_assoc], (List.append_assoc ..).symm, .name e hq hk f1 a, b⟩
theorem RowS.tree {g : Gram} {ws : List Str} {ks sg : List Nat} (h : RowS g ws ks sg) : ∃ m, For g ws ks sg m := by
  induction h with
  | nil => exact ⟨0, .nil⟩
  | sign hq _ ih =>
    obtain ⟨m, f⟩ := ih
    exact ⟨m, .sign hq f⟩
  | name hq hk _ ih =>
    obtain ⟨m, f⟩ := ih
    obtain ⟨k1, k2, s1, s2, h1, h2, rfl, rfl, a, b⟩ := f.split
    exact ⟨_, .name rfl hq hk a b⟩
theorem drop_next {α : Type} {xs ps : List α} {p : α} {d : Nat} (h : xs.drop d = p :: ps) : xs.drop (d + 1) = ps := by
  rw [← List.drop_drop, h]
  rfl

abbrev T3 := Nat × Nat × Nat
def stepT : List Str → T3 → List T3 → Option (T3 × List T3)
  | [], a, w => some (a, w)
  | p :: ps, a, w => if isQ p = true then stepT ps (a.1 + 1, a.2.1, a.2.2) w else match w with
    | [] => none
    | b :: w' => stepT ps (a.1 + b.1, max a.2.1 b.2.1, a.2.2 + b.2.2) w'
def upT (a : T3) : T3 := (a.1, a.2.1 + 1, a.2.2)
inductive RowT (g : Gram) : List Nat → List T3 → List T3 → Prop
  | nil : RowT g [] [] []
  | cons {k : Nat} {ks : List Nat} {w t w' : List T3} {r : Rule} {e : T3} : RowT g ks w t → g[k]? = some r → stepT r.2.1 (0, 0, 1) w = some (e, w') → RowT g (k :: ks) (upT e :: w') (upT e :: t)
theorem RowT.det {g : Gram} {ks : List Nat} {w t : List T3} (h : RowT g ks w t) : ∀ {w2 t2 : List T3}, RowT g ks w2 t2 → w = w2 ∧ t = t2 := by
  induction h with
  | nil =>
    intro w2 t2 h2
    cases h2
    exact ⟨rfl, rfl⟩
  | cons _ hk hs ih =>
    intro w2 t2 h2
    cases h2 with
    | cons h3 hk2 hs2 =>
      obtain ⟨rfl, rfl⟩ := ih h3
      rw [hk] at hk2
      cases hk2
      rw [hs] at hs2
      cases hs2
      exact ⟨rfl, rfl⟩
theorem RowT.drop {g : Gram} {ks : List Nat} {w t : List T3} (h : RowT g ks w t) : ∀ c, c ≤ ks.length → ∃ w', RowT g (ks.drop c) w' (t.drop c) := by
  induction h with
  | nil =>
    intro c hc
    have : c = 0 := Nat.le_zero.mp hc
    subst this
    exact ⟨_, .nil⟩
  | cons h1 hk hs ih =>
    intro c hc
    cases c with
    | zero => exact ⟨_, .cons h1 hk hs⟩
    | succ c => exact ih c (Nat.le_of_succ_le_succ hc)
theorem RowT.len {g : Gram} {ks : List Nat} {w t : List T3} (h : RowT g ks w t) : t.length = ks.length := by
  induction h with
  | nil => rfl
  | cons _ _ _ ih => rw [List.length_cons, List.length_cons, ih]
theorem For.rowT {g : Gram} {ps : List Str} {k1 s1 : List Nat} {h : Nat} (f : For g ps k1 s1 h) : ∀ {k2 : List Nat} {w t : List T3}, RowT g k2 w t → ∃ ts tt, RowT g (k1 ++ k2) (ts ++ w) (tt ++ t) ∧ ∀ (a : T3) (w' : List T3), stepT ps a (ts ++ w') = some ((a.1 + s1.length, max a.2.1 h, a.2.2 + k1.length), w') := by
  induction f with
  | nil =>
    intro k2 w t hr
    refine ⟨[], [], hr, fun a w' => ?_⟩
    unfold stepT
    simp
  | sign hq _ ih =>
    intro k2 w t hr
    obtain ⟨ts, tt, h1, h2⟩ := ih hr
    refine ⟨ts, tt, h1, fun a w' => ?_⟩
    unfold stepT
    rw [if_pos hq, h2]
    simp only [List.length_cons, Option.some.injEq, Prod.mk.injEq, and_true]
    omega
  | name e hq hk _ _ ih1 ih2 =>
    intro k2 w t hr
    obtain ⟨ts2, tt2, a1, a2⟩ := ih2 hr
    obtain ⟨ts1, tt1, b1, b2⟩ := ih1 a1
    have c1 := RowT.cons b1 hk (b2 _ _)
    rename_i r0 p0 ps0 k0 kk1 kk2 ss1 ss2 hh1 hh2 _ _
    refine ⟨upT (0 + ss1.length, max 0 hh1, 1 + kk1.length) :: ts2, upT (0 + ss1.length, max 0 hh1, 1 + kk1.length) :: (tt1 ++ tt2), ?_, fun a w' => ?_⟩
    · rw [List.cons_append, List.cons_append, List.cons_append, List.append_assoc, List.append_assoc]
      exact c1
    · rw [List.cons_append]
      unfold stepT
      rw [if_neg (by rw [hq]; decide)]
      show stepT _ (_, _, _) _ = _
      rw [a2]
      simp only [upT, List.length_cons, List.length_append, Option.some.injEq, Prod.mk.injEq, and_true]
      omega
theorem RowT.at_ {g : Gram} {ks : List Nat} {w t : List T3} (h : RowT g ks w t) {c kk : Nat} {k1 rest s1 : List Nat} {h1 : Nat} {r : Rule} (hc : ks.drop c = kk :: (k1 ++ rest)) (hk : g[kk]? = some r) (f : For g r.2.1 k1 s1 h1) : t[c]? = some (s1.length, h1 + 1, 1 + k1.length) := by
  have hcl : c ≤ ks.length := by
    have := congrArg List.length hc
    rw [List.length_drop, List.length_cons] at this
    omega
  obtain ⟨w', hd⟩ := h.drop c hcl
  rw [hc] at hd
  generalize ht : t.drop c = td at hd
  cases hd with
  | cons hX hk2 hs =>
    rw [hk] at hk2
    cases hk2
    obtain ⟨w3, h3⟩ := hX.drop k1.length (by rw [List.length_append]; omega)
    rw [List.drop_left] at h3
    obtain ⟨ts, tt, b1, b2⟩ := f.rowT h3
    obtain ⟨rfl, _⟩ := hX.det b1
    rw [b2] at hs
    cases hs
    have : t[c]? = (t.drop c)[0]? := by rw [List.getElem?_drop]; rfl
    rw [this, ht]
    show some (upT _) = _
    unfold upT
    simp

def PreAt (cs : List Nat) (b : Nat) (s : List Nat) : Prop := b ≤ cs.length ∧ ∃ rest, cs.drop b = s ++ rest
theorem PreAt.app {cs : List Nat} {b : Nat} {s1 s2 : List Nat} (h : PreAt cs b (s1 ++ s2)) : PreAt cs b s1 ∧ PreAt cs (b + s1.length) s2 := by
  obtain ⟨hb, rest, e⟩ := h
  have hl := congrArg List.length e
  rw [List.length_drop, List.length_append, List.length_append] at hl
  refine ⟨⟨hb, s2 ++ rest, by rw [e, List.append_assoc]⟩, by omega, rest, ?_⟩
  rw [← List.drop_drop, e, List.append_assoc, List.drop_left]
theorem PreAt.head {cs : List Nat} {b c : Nat} {s : List Nat} (h : PreAt cs b (c :: s)) : cs[b]? = some c ∧ PreAt cs (b + 1) s := by
  refine ⟨?_, (PreAt.app (s1 := [c]) h).2⟩
  obtain ⟨hb, rest, e⟩ := h
  have : cs[b]? = (cs.drop b)[0]? := by rw [List.getElem?_drop]; rfl
  rw [this, e]
  rfl
theorem sign_of {p : Str} (h : isPartS p = true) (hq : isQ p = true) : p = sgnP (sgn p) := by
  have h1 := sign_second h hq
  unfold isPartS at h
  rw [Bool.or_eq_true] at h
  rcases h with h | h
  · unfold isSignS at h
    rw [Bool.and_eq_true, Bool.and_eq_true] at h
    have h2 : p.cps.size = 2 := eq_of_beq h.1.1
    rw [isQ_code] at hq
    have hq := of_decide_eq_true hq
    have e : p.cps.toList = [39, sgn p] := by
      have l2 : p.cps.toList.length = 2 := by rw [Array.length_toList]; exact h2
      have e1 : p.cps.toList[1]? = some (sgn p) := by
        have g1 : p.cps.toList[1]? = some p.cps.toList[1] := List.getElem?_eq_getElem (by omega)
        have := atI_nat (j := 1) g1
        have h1' : atI p.cps.toList ((1 : Nat) : Int) = some (sgn p) := h1
        rw [h1'] at this
        rw [g1, ← this]
      match hp : p.cps.toList, l2 with
      | [a, b], _ =>
        rw [hp] at hq e1
        cases hq
        cases e1
        rfl
    have e3 : (sgnP (sgn p)).cps.toList = [39, sgn p] := by
      unfold sgnP
      rw [sign_cps]
    cases p with
    | mk cps =>
      generalize sgnP _ = q at e3 ⊢
      cases q with
      | mk cq =>
        congr 1
        apply Array.toList_inj.mp
        rw [e3]
        exact e
  · rw [isQ_code] at hq
    have hq := of_decide_eq_true hq
    unfold isNameS at h
    rw [Bool.and_eq_true] at h
    exact absurd (List.all_eq_true.mp h.2 39 (List.mem_of_getElem? hq)) (by decide)
section
variable {g : Gram} {cs : List Nat} {hs : Hs} (hg : okGram g = true) (st : StandOk g cs hs) (hb : BaseOk g cs hs)
include hg st hb
theorem st_sign {kk d b e a : Nat} {p : Str} (hp : partAt g kk d = some p) (hpp : isPartS p = true) (hq : isQ p = true) (hc : cs[e]? = some (sgn p)) (hl : lookN hs (.beg kk d b e) = some a) : ∃ v, lookN hs (.beg kk (d + 1) b (e + 1)) = some v ∧ v ≤ a := by
  have h0 := hb.sg e _ hc
  rw [← sign_of hpp hq] at h0
  obtain ⟨v, h1, h2⟩ := st.cl.join kk d b e p (e + 1) a 0 ⟨_, hl⟩ ⟨_, h0⟩ hp hl h0
  exact ⟨v, h1, by omega⟩
theorem st_parts {ps : List Str} {ks sg : List Nat} {h : Nat} (f : For g ps ks sg h) : ∀ {kk d b e a : Nat} {r : Rule}, g[kk]? = some r → r.2.1.drop d = ps → d ≤ r.2.1.length → PreAt cs e sg → lookN hs (.beg kk d b e) = some a → ∃ v, lookN hs (.beg kk r.2.1.length b (e + sg.length)) = some v ∧ v ≤ max a h := by
  induction f with
  | nil =>
    intro kk d b e a r hk hd hdl hpre hl
    have : d = r.2.1.length := by
      have := List.drop_eq_nil_iff.mp hd
      omega
    subst this
    exact ⟨a, hl, by omega⟩
  | sign hq _ ih =>
    rename_i p ps ks sg h f
    intro kk d b e a r hk hd hdl hpre hl
    have hdl2 : d < r.2.1.length := by
      have := congrArg List.length hd
      rw [List.length_drop, List.length_cons] at this
      omega
    have hp : r.2.1[d]? = some p := by
      have : r.2.1[d]? = (r.2.1.drop d)[0]? := by rw [List.getElem?_drop]; rfl
      rw [this, hd]; rfl
    obtain ⟨hc, hpre2⟩ := hpre.head
    obtain ⟨v, h1, h2⟩ := st_sign hg st hb (by unfold partAt; rw [hk]; exact hp) ((rule_parts (rule_okB hg hk)).2 p (List.mem_of_getElem? hp)) hq hc hl
    obtain ⟨v2, h3, h4⟩ := ih hk (drop_next hd) hdl2 hpre2 h1
    refine ⟨v2, ?_, by omega⟩
    rw [List.length_cons, show e + (sg.length + 1) = e + 1 + sg.length by omega]
    exact h3
  | name e0 hq hk0 _ _ ih1 ih2 =>
    rename_i r0 p ps k0 k1 k2 s1 s2 h1 h2 f1 f2
    intro kk d b e a r hk hd hdl hpre hl
    have hdl2 : d < r.2.1.length := by
      have := congrArg List.length hd
      rw [List.length_drop, List.length_cons] at this
      omega
    have hp : r.2.1[d]? = some p := by
      have : r.2.1[d]? = (r.2.1.drop d)[0]? := by rw [List.getElem?_drop]; rfl
      rw [this, hd]; rfl
    obtain ⟨hpre1, hpre2⟩ := hpre.app
    obtain ⟨v, c1, c2⟩ := ih1 hk0 (d := 0) rfl (Nat.zero_le _) hpre1 (hb.bg k0 e (List.getElem?_eq_some_iff.mp hk0).1 hpre1.1)
    obtain ⟨v1, c3, c4⟩ := st.cl.up k0 r0 e (e + s1.length) v hk0 ⟨_, c1⟩ c1
    rw [e0] at c3
    obtain ⟨v2, c5, c6⟩ := st.cl.join kk d b e p (e + s1.length) a v1 ⟨_, hl⟩ ⟨_, c3⟩ (by unfold partAt; rw [hk]; exact hp) hl c3
    obtain ⟨v3, c7, c8⟩ := ih2 hk (drop_next hd) hdl2 hpre2 c5
    refine ⟨v3, ?_, by omega⟩
    rw [List.length_append, ← Nat.add_assoc]
    exact c7
theorem st_name {k0 e : Nat} {r0 : Rule} {k1 s1 : List Nat} {h1 : Nat} (hk0 : g[k0]? = some r0) (f : For g r0.2.1 k1 s1 h1) (hpre : PreAt cs e s1) : ∃ v, lookN hs (.part r0.1 e (e + s1.length)) = some v ∧ v ≤ h1 + 1 := by
  obtain ⟨v, c1, c2⟩ := st_parts hg st hb f hk0 (d := 0) rfl (Nat.zero_le _) hpre (hb.bg k0 e (List.getElem?_eq_some_iff.mp hk0).1 hpre.1)
  obtain ⟨v1, c3, c4⟩ := st.cl.up k0 r0 e (e + s1.length) v hk0 ⟨_, c1⟩ c1
  exact ⟨v1, c3, by omega⟩
theorem st_one {p : Str} {i j v : Nat} (hn : isQ p = false) (h : lookN hs (.part p i j) = some v) : 1 ≤ v := by
  rcases st.why _ _ h with ⟨_, c, _, e, _⟩ | ⟨_, _, m, _, _, _, e⟩
  · rw [e] at hn
    unfold sgnP at hn
    rw [sign_isQ] at hn
    cases hn
  · omega
end

inductive Chain (g : Gram) (ks cs : List Nat) (D : Nat → Option Nat) : Nat → Prop
  | done {k : Nat} : k = ks.length → Chain g ks cs D k
  | node {k kk b : Nat} {r : Rule} {k1 rest s1 : List Nat} {h1 : Nat} : D k = some b → ks.drop k = kk :: (k1 ++ rest) → g[kk]? = some r → isQ r.1 = false → For g r.2.1 k1 s1 h1 → PreAt cs b s1 → Chain g ks cs D (k + 1 + k1.length) → Chain g ks cs D k
theorem Chain.congr {g : Gram} {ks cs : List Nat} {D D' : Nat → Option Nat} {k : Nat} (h : Chain g ks cs D k) : (∀ j, k ≤ j → D' j = D j) → Chain g ks cs D' k := by
  induction h with
  | done e => exact fun _ => .done e
  | node a1 a2 a3 a4 a5 a6 _ ih => exact fun hD => .node (by rw [hD _ (Nat.le_refl _)]; exact a1) a2 a3 a4 a5 a6 (ih fun j hj => hD j (by omega))

def DOk (kvs : List (Key × V)) (D : Nat → Option Nat) : Prop := ∀ j : Nat, valV kvs (.inl (j : Int)) = (D j).map nV
def putD (D : Nat → Option Nat) (k b : Nat) : Nat → Option Nat := fun j => if j = k then some b else D j
theorem DOk.put {kvs : List (Key × V)} {D : Nat → Option Nat} (h : DOk kvs D) (k b : Nat) : DOk (putK kvs (.inl (k : Int)) (nV b)) (putD D k b) := by
  intro j
  rw [valV_put]
  unfold putD
  by_cases e : j = k
  · rw [if_pos e, if_pos (by rw [e])]; rfl
  · rw [if_neg e, if_neg (fun z => e (by cases z; rfl)), h]
theorem putK_le (kvs : List (Key × V)) (k : Key) (v : V) : (putK kvs k v).length ≤ kvs.length + 1 := by
  unfold putK
  split
  · rw [List.length_map]; omega
  · rw [List.length_append]; exact Nat.le_refl _
end FR


set_option linter.all false
set_option maxRecDepth 100000
set_option maxHeartbeats 4000000
namespace FR
open PySem L2

def t3V (x : T3) : List V := [nV x.1, nV x.2.1, nV x.2.2]
inductive Tups (H : Hp) : List Addr → List T3 → Prop
  | nil : Tups H [] []
  | cons {a : Addr} {x : T3} {as : List Addr} {xs : List T3} : H a = some (.tup (t3V x)) → Tups H as xs → Tups H (a :: as) (x :: xs)
theorem Tups.same {H H' : Hp} (s : Same H H') {as : List Addr} {xs : List T3} (h : Tups H as xs) : Tups H' as xs := by
  induction h with
  | nil => exact .nil
  | cons e _ ih => exact .cons (s _ _ e) ih
theorem Tups.put {H : Hp} {l : Addr} {ys : List V} {ob : HO} (hl : H l = some (.lst ys)) {as : List Addr} {xs : List T3} (h : Tups H as xs) : Tups (upd H l ob) as xs := by
  induction h with
  | nil => exact .nil
  | cons e _ ih => exact .cons (by rw [upd_ne (fun z => by rw [z, hl] at e; cases e)]; exact e) ih
theorem Tups.len {H : Hp} {as : List Addr} {xs : List T3} (h : Tups H as xs) : as.length = xs.length := by
  induction h with
  | nil => rfl
  | cons _ _ ih => rw [List.length_cons, List.length_cons, ih]
theorem Tups.at_ {H : Hp} {as : List Addr} {xs : List T3} (h : Tups H as xs) : ∀ {i : Nat} {x : T3}, xs[i]? = some x → ∃ a, as[i]? = some a ∧ H a = some (.tup (t3V x)) := by
  induction h with
  | nil => intro i x e; cases e
  | cons e _ ih =>
    intro i x e2
    cases i with
    | zero => cases e2; exact ⟨_, rfl, e⟩
    | succ i => exact ih e2
theorem stepT_len : ∀ {ps : List Str} {a : T3} {w : List T3} {e : T3} {w' : List T3}, stepT ps a w = some (e, w') → w'.length ≤ w.length
  | [], a, w, e, w', h => by
    unfold stepT at h
    cases h
    exact Nat.le_refl _
  | p :: ps, a, w, e, w', h => by
    unfold stepT at h
    split at h
    · exact stepT_len h
    · cases w with
      | nil => cases h
      | cons b w2 => exact Nat.le_succ_of_le (stepT_len h)
theorem RowT.wlen {g : Gram} {ks : List Nat} {w t : List T3} (h : RowT g ks w t) : w.length ≤ ks.length := by
  induction h with
  | nil => exact Nat.le_refl _
  | cons _ _ hs ih =>
    have := stepT_len hs
    rw [List.length_cons, List.length_cons]
    omega
theorem maxV (a b : Nat) : V.int (if (b : Int) > (a : Int) then (b : Int) else (a : Int)) = nV (max a b) := by
  show V.int _ = V.int _
  congr 1
  split <;> omega
def spTree : Sp := fun vs H Q _ => ∃ (l o : Addr) (xs : List V) (g : Gram) (ks : List Nat) (w t : List T3), vs = [.ref l, .ref o] ∧ H l = some (.lst xs) ∧ Dens H xs (g.map ruleD) ∧ okGram g = true ∧ H o = some (.lst (ks.map nV)) ∧ RowT g ks w t ∧ ks.length ≤ 200 ∧ Plain H ∧
  ∀ a as H', Same H H' → Plain H' → H' a = some (.lst (as.map V.ref)) → Tups H' as t → Q (.ref a) H'
section
variable {P : Program} {w : World} {K : PySem.W.Frag} {mg : Str → Option Value} {base : Heap} {C : Adr}
theorem sc__law_tree : FnScope ["_law_rules", "_law_row_here", "_law_tree_here", "_law_waiting", "_law_number", "_law_size", "_law_high", "_law_many", "_law_part", "_law_below"] ["_law_rules", "_law_row_here"] (defScope s__law_tree) := ⟨rfl, rfl, rfl, by decide +kernel, rfl, by decide +kernel, by decide +kernel⟩
theorem ok__law_tree {f : Addr} {fd : FuncData} (F : Fun K "_law_tree" "_law_tree" s__law_tree f fd) (T : Txt K mg C) : FnOk P w K mg base CX0 1 f fd ["_law_rules", "_law_row_here"] (spTree) := by
  refine F.ok sc__law_tree (fun vs H Q E h => ?_) (fun cdv A outer s H vs Q E hr h => ?_)
  · obtain ⟨l, o, xs, g, ks, w, t, rfl, _⟩ := h
    rfl
  · obtain ⟨l, o, xs, g, ks, w, t, rfl, hl, hds, hg, ho, hrt, hkl, hp, q⟩ := h
    have hU := hr.units
    refine ⟨_, (pss_cons (ps_set (i := 2) sc__law_tree.nd rfl (Or.inl rfl) (pe_lst pa_nil))
      (pss_cons (ps_set (i := 3) sc__law_tree.nd rfl (Or.inl rfl) (pe_lst pa_nil))
      (pss_cons (ps_for PassesOwn.never rfl (pi_revL K rfl rfl T.z_reversed (pa_cons (pv 1) pa_nil)) (pg_name (i := 4) sc__law_tree.nd rfl (Or.inl rfl)) (pss_cons (ps_set (i := 5) sc__law_tree.nd rfl (Or.inl rfl) pe_int)
      (pss_cons (ps_set (i := 6) sc__law_tree.nd rfl (Or.inl rfl) pe_int)
      (pss_cons (ps_set (i := 7) sc__law_tree.nd rfl (Or.inl rfl) pe_int)
      (pss_cons (ps_for PassesOwn.never rfl (pi_tupK K rfl (pe_ix (ix_tupK K rfl) (pe_ix (ix_listK K rfl) (pv 0) (pv 4) (fun _ _ => rfl)) pe_int (fun _ _ => rfl))) (pg_name (i := 8) sc__law_tree.nd rfl (Or.inl rfl)) (pss_one (ps_if (pt_cmpR op_eq (pe_ix ix_str (pv 8) pe_int (fun _ _ => rfl)) pe_str (nomark _)) (pss_one (ps_set (i := 5) sc__law_tree.nd rfl (Or.inl rfl) (pe_op op_add (pv 5) pe_int))) (pss_cons (ps_set (i := 9) sc__law_tree.nd rfl (Or.inl rfl) (pe_bm0K K rfl PySem.F.plainAttrs_list PySem.F.slot_list_pop PySem.F.type_list_pop mt_pop (pv 3)))
      (pss_cons (ps_set (i := 5) sc__law_tree.nd rfl (Or.inl rfl) (pe_op op_add (pv 5) (pe_ix (ix_tupK K rfl) (pv 9) pe_int (fun _ _ => rfl))))
      (pss_cons (ps_set (i := 6) sc__law_tree.nd rfl (Or.inl rfl) (pe_callB (call_max2 rfl) (by rfl) T.z_max PyProof.Rows.Boot.«max» (pa_cons (pv 6) (pa_cons (pe_ix (ix_tupK K rfl) (pv 9) pe_int (fun _ _ => rfl)) pa_nil))))
      (pss_one (ps_set (i := 7) sc__law_tree.nd rfl (Or.inl rfl) (pe_op op_add (pv 7) (pe_ix (ix_tupK K rfl) (pv 9) pe_int (fun _ _ => rfl)))))))))))
      (pss_cons (ps_expr (pe_bmK K rfl PySem.F.plainAttrs_list PySem.F.slot_list_append PySem.F.type_list_append mt_append (pv 3) (pa_cons (pe_tup (pa_cons (pv 5) (pa_cons (pe_op op_add (pv 6) pe_int) (pa_cons (pv 7) pa_nil)))) pa_nil)))
      (pss_one (ps_expr (pe_bmK K rfl PySem.F.plainAttrs_list PySem.F.slot_list_append PySem.F.type_list_append mt_append (pv 2) (pa_cons (pe_ix (ix_listK K rfl) (pv 3) (pe_un un_neg pe_int) (fun _ _ => rfl)) pa_nil))))))))))
      (pss_cons (ps_expr (pe_bm0K K rfl PySem.F.plainAttrs_list PySem.F.slot_list_reverse PySem.F.type_list_reverse mt_reverse (pv 2)))
      (pss_one (ps_ret (pv 2))))))), ?_⟩
    refine ⟨Nat.zero_le _, fun lt hlt => ⟨Nat.zero_le _, fun lw hlw => ?_⟩⟩
    have s1 := Same.upd (o := .lst []) hlt
    have s2 := Same.upd (o := .lst []) hlw
    have n1 : lw ≠ lt := fun z => by rw [z, upd_same] at hlw; cases hlw
    have hlw0 : H lw = none := s1.free hlw
    have t3 : upd (upd H lt (.lst [])) lw (.lst []) lt = some (.lst ([].map V.ref)) := s2 _ _ upd_same
    have w3 : upd (upd H lt (.lst [])) lw (.lst []) lw = some (.lst ([].map V.ref)) := upd_same
    have s03 := s1.trans s2
    have p3 : Plain (upd (upd H lt (.lst [])) lw (.lst [])) := (hp.upd rfl).upd rfl
    revert t3 w3 s03 p3
    generalize upd (upd H lt (.lst [])) lw (.lst []) = H3
    intro t3 w3 s03 p3
    refine ⟨_, rfl, o, _, rfl, .inl (s03 _ _ ho), ?_⟩
    refine for_revL (K := K) (a := o) (xs := ks.map nV) (fun i σ H4 => ∃ (wa ta : List Addr) (w t : List T3) (v4 v5 v6 v7 v8 v9 : Option V), σ = [some (.ref l), some (.ref o), some (.ref lt), some (.ref lw), v4, v5, v6, v7, v8, v9] ∧ H4 lt = some (.lst (ta.reverse.map V.ref)) ∧ H4 lw = some (.lst (wa.reverse.map V.ref)) ∧ Tups H4 ta t ∧ Tups H4 wa w ∧ RowT g (ks.drop (ks.length - i)) w t ∧ Same H H4 ∧ Plain H4)
      ⟨[], [], [], [], none, none, none, none, none, none, rfl, t3, w3, .nil, .nil, by rw [Nat.sub_zero, List.drop_length]; exact .nil, s03, p3⟩ ?_ ?_ ?_
    · rintro i σ H4 _ ⟨_, _, _, _, _, _, _, _, _, _, rfl, _, _, _, _, _, s4, _⟩
      exact SqL.of (s4 _ _ ho)
    · rintro i x σ H4 hi ⟨wa, ta, w4, tt4, v4, v5, v6, v7, v8, v9, rfl, ht4, hw4, hta, hwa, hrt4, s4, p4⟩
      rw [← List.map_reverse, List.getElem?_map] at hi
      cases ex : ks.reverse[i]? with
      | none => rw [ex] at hi; cases hi
      | some k =>
        rw [ex] at hi
        cases hi
        have hil : i < ks.length := by
          have := (List.getElem?_eq_some_iff.mp ex).1
          rwa [List.length_reverse] at this
        rw [List.getElem?_reverse hil] at ex
        have edr : ks.drop (ks.length - (i + 1)) = k :: ks.drop (ks.length - i) := by
          have h1 : ks.length - (i + 1) < ks.length := by omega
          rw [List.drop_eq_getElem_cons h1]
          have h2 : ks[ks.length - (i + 1)]? = some k := by rw [← ex]; congr 1; omega
          rw [List.getElem?_eq_getElem h1] at h2
          cases h2
          congr 2
          omega
        obtain ⟨w5, hrt5⟩ := hrt.drop (ks.length - (i + 1)) (by omega)
        rw [edr] at hrt5
        generalize htd : t.drop (ks.length - (i + 1)) = td at hrt5
        have hrt5' := hrt5
        cases hrt5 with
        | cons hX er hstep =>
          rename_i w2 t2 w' r e
          obtain ⟨rfl, rfl⟩ := hX.det hrt4
          have hwl := hX.wlen
          have htl := hX.len
          rw [List.length_drop] at hwl htl
          have hok := rule_parts (rule_okB hg er)
          obtain ⟨tr, pp, ax, htr, hpp⟩ := rule_num hds er
          refine ⟨_, rfl, _, rfl, l, _, _, _, rfl, rfl, SqL.of (s4 _ _ hl), ax, tr, _, 1, _, rfl, rfl, SqT.of (s4 _ _ htr), rfl, pp, rfl, ⟨_, SqT.of (s4 _ _ hpp)⟩, ?_⟩
          refine for_tup (K := K) (a := pp) (xs := r.2.1.map V.str) (fun j σ H5 => ∃ (a : T3) (wj : List T3) (waj : List Addr) (v8 v9 : Option V), σ = [some (.ref l), some (.ref o), some (.ref lt), some (.ref lw), some (nV k), some (nV a.1), some (nV a.2.1), some (nV a.2.2), v8, v9] ∧ H5 lt = some (.lst (ta.reverse.map V.ref)) ∧ H5 lw = some (.lst (waj.reverse.map V.ref)) ∧ Tups H5 ta t2 ∧ Tups H5 waj wj ∧ stepT (r.2.1.drop j) a wj = some (e, w') ∧ Same H H5 ∧ Plain H5)
            ⟨(0, 0, 1), w2, wa, _, _, rfl, ht4, hw4, hta, hwa, hstep, s4, p4⟩ ?_ ?_ ?_
          · rintro j σ H5 _ ⟨_, _, _, _, _, rfl, _, _, _, _, _, s5, _⟩
            exact SqT.of (s5 _ _ hpp)
          · rintro j y σ H5 hj ⟨a, wj, waj, v8, v9, rfl, ht5, hw5, hta5, hwa5, hst5, s5, p5⟩
            rw [List.getElem?_map] at hj
            cases ey : r.2.1[j]? with
            | none => rw [ey] at hj; cases hj
            | some p =>
              rw [ey] at hj
              cases hj
              have hjl := (List.getElem?_eq_some_iff.mp ey).1
              have edp : r.2.1.drop j = p :: r.2.1.drop (j + 1) := by
                rw [List.drop_eq_getElem_cons hjl]
                rw [List.getElem?_eq_getElem hjl] at ey
                cases ey
                rfl
              rw [edp] at hst5
              unfold stepT at hst5
              have hpart := hok.2 p (List.mem_of_getElem? ey)
              obtain ⟨ch, hc, hlz, hdec⟩ := part_first hpart
              refine ⟨_, rfl, p, 0, ch, rfl, rfl, line1000 (by omega), hc, rfl, _, rfl, ?_⟩
              rw [hdec]
              by_cases hq : isQ p = true
              · rw [hq]
                rw [if_pos hq] at hst5
                exact ⟨_, rfl, _, _, rfl, rfl, (a.1 + 1, a.2.1, a.2.2), wj, waj, _, _, rfl, ht5, hw5, hta5, hwa5, hst5, s5, p5⟩
              · rw [if_neg hq] at hst5
                rw [Bool.eq_false_iff.mpr hq]
                cases hwa5 with
                | nil => cases hst5
                | cons hba hwa6 =>
                  rename_i ba b waj' wj'
                  have hst5 : stepT (r.2.1.drop (j + 1)) (a.1 + b.1, max a.2.1 b.2.1, a.2.2 + b.2.2) wj' = some (e, w') := hst5
                  have elast : ((ba :: waj').reverse.map V.ref)[((ba :: waj').reverse.map V.ref).length - 1]? = some (.ref ba) := by
                    rw [List.reverse_cons, List.map_append, List.length_append]
                    show (_ ++ [V.ref ba])[_ + 1 - 1]? = _
                    rw [Nat.add_sub_cancel, List.getElem?_append_right (Nat.le_refl _), Nat.sub_self]
                    rfl
                  have edrop : ((ba :: waj').reverse.map V.ref).dropLast = waj'.reverse.map V.ref := by rw [List.reverse_cons, List.map_append]; exact List.dropLast_concat
                  refine ⟨_, rfl, .inl ⟨rfl, _, SqL.of hw5⟩, lw, _, _, rfl, rfl, hw5, elast, ?_⟩
                  rw [edrop]
                  have s6 : Same H (upd H5 lw (.lst (waj'.reverse.map V.ref))) := s5.put hlw0
                  have p6 : Plain (upd H5 lw (.lst (waj'.reverse.map V.ref))) := p5.upd rfl
                  have hw6 : upd H5 lw (.lst (waj'.reverse.map V.ref)) lw = some (.lst (waj'.reverse.map V.ref)) := upd_same
                  have ht6 : upd H5 lw (.lst (waj'.reverse.map V.ref)) lt = some (.lst (ta.reverse.map V.ref)) := by rw [upd_ne n1.symm]; exact ht5
                  have hta6 : Tups (upd H5 lw (.lst (waj'.reverse.map V.ref))) ta t2 := hta5.put hw5
                  have hwa7 : Tups (upd H5 lw (.lst (waj'.reverse.map V.ref))) (ba :: waj') (b :: wj') := (Tups.cons hba hwa6).put hw5
                  revert s6 p6 hw6 ht6 hta6 hwa7
                  generalize upd H5 lw (.lst (waj'.reverse.map V.ref)) = H6
                  intro s6 p6 hw6 ht6 hta6 hwa7
                  cases hwa7 with
                  | cons hba7 hwa8 =>
                    have sqb := SqT.of (K := K) hba7
                    refine ⟨_, rfl, _, rfl, ba, _, 0, _, rfl, rfl, sqb, rfl, _, _, rfl, rfl, ?_⟩
                    refine ⟨_, rfl, _, rfl, ba, _, 1, _, rfl, rfl, sqb, rfl, _, _, rfl, ?_⟩
                    refine ⟨_, rfl, _, rfl, ba, _, 2, _, rfl, rfl, sqb, rfl, _, _, rfl, rfl, ?_⟩
                    exact ⟨(a.1 + b.1, max a.2.1 b.2.1, a.2.2 + b.2.2), wj', waj', _, _, by rw [← maxV]; rfl, ht6, hw6, hta6, hwa8, hst5, s6, p6⟩
          · rintro σ H5 ⟨a, wj, waj, v8, v9, rfl, ht5, hw5, hta5, hwa5, hst5, s5, p5⟩
            have hst5 : stepT (r.2.1.drop (r.2.1.map V.str).length) a wj = some (e, w') := hst5
            rw [List.length_map, List.drop_length] at hst5
            unfold stepT at hst5
            cases hst5
            have hwl' := hwa5.len
            have hwl'' := stepT_len hstep
            have htl' := hta5.len
            refine ⟨_, rfl, .inl ⟨rfl, _, SqL.of hw5⟩, _, rfl, _, rfl, _, _, rfl, rfl, _, rfl, line1000 (by show 3 ≤ 1000; decide), fun tz htz => ?_⟩
            have sz := Same.upd (o := .tup (t3V (upT e))) htz
            have ez : [V.int (e.1 : Int), V.int ((e.2.1 : Int) + 1), V.int (e.2.2 : Int)] = t3V (upT e) := rfl
            have nzl : tz ≠ lw := fun z => by rw [z, hw5] at htz; cases htz
            have nzt : tz ≠ lt := fun z => by rw [z, ht5] at htz; cases htz
            refine ⟨lw, _, _, rfl, rfl, sz _ _ hw5, by rw [List.length_map, List.length_reverse, sizeLine_eq]; omega, ?_⟩
            have hw6 : upd (upd H5 tz (.tup (t3V (upT e)))) lw (.lst (waj.reverse.map V.ref ++ [.ref tz])) lw = some (.lst (waj.reverse.map V.ref ++ [.ref tz])) := upd_same
            have ht6 : upd (upd H5 tz (.tup (t3V (upT e)))) lw (.lst (waj.reverse.map V.ref ++ [.ref tz])) lt = some (.lst (ta.reverse.map V.ref)) := by rw [upd_ne n1.symm]; exact sz _ _ ht5
            have s6 : Same H (upd (upd H5 tz (.tup (t3V (upT e)))) lw (.lst (waj.reverse.map V.ref ++ [.ref tz]))) := (s5.trans sz).put hlw0
            have p6 : Plain (upd (upd H5 tz (.tup (t3V (upT e)))) lw (.lst (waj.reverse.map V.ref ++ [.ref tz]))) := (p5.upd rfl).upd rfl
            have hz6 : upd (upd H5 tz (.tup (t3V (upT e)))) lw (.lst (waj.reverse.map V.ref ++ [.ref tz])) tz = some (.tup (t3V (upT e))) := by rw [upd_ne nzl]; exact upd_same
            have ta6 : Tups (upd (upd H5 tz (.tup (t3V (upT e)))) lw (.lst (waj.reverse.map V.ref ++ [.ref tz]))) ta t2 := (hta5.same sz).put (sz _ _ hw5)
            have wa6 : Tups (upd (upd H5 tz (.tup (t3V (upT e)))) lw (.lst (waj.reverse.map V.ref ++ [.ref tz]))) waj w' := (hwa5.same sz).put (sz _ _ hw5)
            revert hw6 ht6 s6 p6 hz6 ta6 wa6
            generalize hH6 : upd (upd H5 tz (.tup (t3V (upT e)))) lw (.lst (waj.reverse.map V.ref ++ [.ref tz])) = H6
            intro hw6 ht6 s6 p6 hz6 ta6 wa6
            have hH6' : upd (upd H5 tz (.tup [V.int (e.1 : Int), V.int ((e.2.1 : Int) + 1), V.int (e.2.2 : Int)])) lw (.lst (waj.reverse.map V.ref ++ [.ref tz])) = H6 := hH6
            show tSeq _ _ _ _ (upd (upd H5 tz (.tup [V.int (e.1 : Int), V.int ((e.2.1 : Int) + 1), V.int (e.2.2 : Int)])) lw (.lst (waj.reverse.map V.ref ++ [.ref tz])))
            rw [hH6']
            refine ⟨_, rfl, .inl ⟨rfl, _, SqL.of ht6⟩, _, rfl, 1, rfl, lw, _, _, _, rfl, rfl, SqL.of hw6, atI_last _ _, lt, _, _, rfl, rfl, ht6, by rw [List.length_map, List.length_reverse, sizeLine_eq]; omega, ?_⟩
            refine ⟨tz :: waj, tz :: ta, _, _, _, _, _, _, _, _, rfl, ?_, ?_, .cons ?_ (ta6.put ht6), .cons ?_ (wa6.put ht6), by rw [edr]; exact hrt5', s6.put hlt, p6.upd rfl⟩
            · rw [upd_same, List.reverse_cons, List.map_append]; rfl
            · rw [upd_ne n1, hw6, List.reverse_cons, List.map_append]; rfl
            · rw [upd_ne nzt]; exact hz6
            · rw [upd_ne nzt]; exact hz6
    · rintro σ H4 ⟨wa, ta, w4, tt4, v4, v5, v6, v7, v8, v9, rfl, ht4, hw4, hta, hwa, hrt4, s4, p4⟩
      rw [List.length_map, Nat.sub_self, List.drop_zero] at hrt4
      obtain ⟨_, rfl⟩ := hrt.det hrt4
      refine ⟨_, rfl, .inl ⟨rfl, _, SqL.of ht4⟩, lt, _, rfl, rfl, ht4, ?_⟩
      rw [← List.map_reverse, List.reverse_reverse]
      exact ⟨_, rfl, q lt ta _ (s4.put hlt) (p4.upd rfl) upd_same (hta.put ht4)⟩
end
end FR


set_option linter.all false
set_option maxRecDepth 100000
set_option maxHeartbeats 4000000
namespace FR
open PySem L2

def spLow : Sp := fun vs H Q _ => ∃ (f nd : Addr) (ob : Obj) (hs : Hs) (x : Nd) (v lo hi : Nat), vs = [.ref f, .ref nd, .int (lo : Int), .int (hi : Int)] ∧ H f = some (.frz ob (.dT (hsD hs))) ∧ H nd = some (.tup ((keyN x).map kV)) ∧ lookN hs x = some v ∧ lo ≤ v ∧ v ≤ hi ∧ Q (.bl true) H
def spRuleSt : Sp := fun vs H Q _ => ∃ (G : Hp) (l f o t bg : Addr) (ob : Obj) (xs : List V) (g : Gram) (cs ks : List Nat) (hs : Hs) (as : List Addr) (w tr : List T3) (D : Nat → Option Nat) (kvs : List (Key × V)) (k : Nat), vs = [.ref l, .ref f, .ref o, .ref t, .ref bg, nV k] ∧
  G l = some (.lst xs) ∧ Dens G xs (g.map ruleD) ∧ okGram g = true ∧ G f = some (.frz ob (.dT (hsD hs))) ∧ StandOk g cs hs ∧ BaseOk g cs hs ∧ G o = some (.lst (ks.map nV)) ∧ ks.length ≤ 200 ∧ G t = some (.lst (as.map V.ref)) ∧ Tups G as tr ∧ RowT g ks w tr ∧ G bg = none ∧
  Same G H ∧ Plain H ∧ H bg = some (.dK kvs) ∧ DOk kvs D ∧ kvs.length ≤ 1 + 6 * k ∧ Chain g ks cs D k ∧ k < ks.length ∧
  ∀ H' kvs' D', Same G H' → Plain H' → H' bg = some (.dK kvs') → DOk kvs' D' → kvs'.length ≤ 1 + 6 * (k + 1) → Chain g ks cs D' (k + 1) → Q (.bl true) H'
section
variable {P : Program} {w : World} {K : PySem.W.Frag} {mg : Str → Option Value} {base : Heap} {C : Adr}
theorem sc__law_low : FnScope ["_law_found", "_law_node_here", "_law_low_here", "_law_high"] ["_law_found", "_law_node_here", "_law_low_here", "_law_high"] (defScope s__law_low) := ⟨rfl, rfl, rfl, by decide +kernel, rfl, by decide +kernel, by decide +kernel⟩
theorem ok__law_low {f : Addr} {fd : FuncData} (F : Fun K "_law_low" "_law_low" s__law_low f fd) (T : Txt K mg C) : FnOk P w K mg base CX0 1 f fd ["_law_found", "_law_node_here", "_law_low_here", "_law_high"] (spLow) := by
  refine F.ok sc__law_low (fun vs H Q E h => ?_) (fun cdv A outer s H vs Q E hr h => ?_)
  · obtain ⟨f, nd, ob, hs, x, v, lo, hi, rfl, _⟩ := h
    rfl
  · obtain ⟨f, nd, ob, hs, x, v, lo, hi, rfl, hf, hn, hv, h1, h2, q⟩ := h
    have hu := hu_of hr
    have hU := hr.units
    refine ⟨_, (pss_one (ps_ret (pe_and (pe_cmp (pc_din hu (pv 1) (pv 0))) (pe_one (pe_chain op_le op_le (pv 2) (pe_dget hu (pv 0) (pv 1) (fun _ _ => rfl)) (pv 3)))))), ?_⟩
    have dg : DGet H f (.ref nd) (some (nV v)) := .inr ⟨hsD hs, keyN x, nd, .inr ⟨ob, hf⟩, rfl, hn, by rw [valV_hs, hv]; rfl⟩
    refine ⟨_, rfl, _, rfl, f, some (nV v), rfl, dg, _, rfl, iteT ?_⟩
    refine ⟨_, rfl, _, rfl, _, rfl, f, nV v, rfl, dg, _, _, rfl, rfl, _, rfl, ?_⟩
    rw [decide_eq_true (show (lo : Int) ≤ (v : Int) by omega)]
    refine iteT ⟨_, rfl, _, _, rfl, rfl, ?_⟩
    show Q (.bl (decide ((v : Int) ≤ (hi : Int)))) H
    rw [decide_eq_true (show (v : Int) ≤ (hi : Int) by omega)]
    exact q
theorem sc__law_rule_stands : FnScope ["_law_rules", "_law_found", "_law_row_here", "_law_tree_here", "_law_begins", "_law_k", "_law_end", "_law_child", "_law_high", "_law_parts_here", "_law_d"] ["_law_rules", "_law_found", "_law_row_here", "_law_tree_here", "_law_begins", "_law_k"] (defScope s__law_rule_stands) := ⟨rfl, rfl, rfl, by decide +kernel, rfl, by decide +kernel, by decide +kernel⟩
theorem ok__law_rule_stands {f : Addr} {fd : FuncData} (F : Fun K "_law_rule_stands" "_law_rule_stands" s__law_rule_stands f fd) (T : Txt K mg C) (U__law_low : Used P w K mg CX0 1 "_law_low" ["_law_found", "_law_node_here", "_law_low_here", "_law_high"] (spLow)) : FnOk P w K mg base CX0 2 f fd ["_law_rules", "_law_found", "_law_row_here", "_law_tree_here", "_law_begins", "_law_k"] (spRuleSt) := by
  obtain ⟨f__law_low, fd__law_low, G__law_low, m__law_low, k__law_low, b__law_low⟩ := U__law_low.ok
  refine F.ok sc__law_rule_stands (fun vs H Q E h => ?_) (fun cdv A outer s H vs Q E hr h => ?_)
  · obtain ⟨G, l, f, o, t, bg, ob, xs, g, cs, ks, hs, as, w, tr, D, kvs, k, rfl, _⟩ := h
    rfl
  · obtain ⟨G, l, f, o, t, bg, ob, xs, g, cs, ks, hs, as, w, tr, D, kvs, k, rfl, hl, hds, hg, hf, st, hb, ho, hkl, ht, has, hrt, hbg, s0, p0, hD, hDo, hDl, hch, hk, q⟩ := h
    have hu := hu_of hr
    have hU := hr.units
    refine ⟨_, (pss_cons (ps_set (i := 6) sc__law_rule_stands.nd rfl (Or.inl rfl) (pe_dget hu (pv 4) (pv 5) (fun _ _ => rfl)))
      (pss_cons (ps_set (i := 7) sc__law_rule_stands.nd rfl (Or.inl rfl) (pe_op op_add (pv 5) pe_int))
      (pss_cons (ps_set (i := 8) sc__law_rule_stands.nd rfl (Or.inl rfl) pe_int)
      (pss_cons (ps_if (pt_not (pt_val (pe_call (G__law_low base) (hr.mono (by decide)) (by rfl) m__law_low k__law_low b__law_low .nil pass0 (pa_cs (pv 1) (pa_cs (pe_tup (pa_cs (pe_ix (ix_listK K rfl) (pv 2) (pv 5) (fun _ _ => rfl)) (pa_cs pe_int (pa_cs (pv 6) (pa_cs (pv 6) pa_nil))))) (pa_cs pe_int (pa_cs pe_int pa_nil))))))) (pss_one (ps_ret pe_bl)) pss_nil)
      (pss_cons (ps_set (i := 9) sc__law_rule_stands.nd rfl (Or.inl rfl) (pe_ix (ix_tupK K rfl) (pe_ix (ix_listK K rfl) (pv 0) (pe_ix (ix_listK K rfl) (pv 2) (pv 5) (fun _ _ => rfl)) (fun _ _ => rfl)) pe_int (fun _ _ => rfl)))
      (pss_cons (ps_for PassesOwn.never rfl (pi_range1 rfl T.z_range (pa_cons (pe_callB (call_len_seqK K rfl) (by rfl) T.z_len PyProof.Rows.Boot.«len» (pa_cons (pv 9) pa_nil)) pa_nil)) (pg_name (i := 10) sc__law_rule_stands.nd rfl (Or.inl rfl)) (pss_cons (ps_if (pt_cmpR op_eq (pe_ix ix_str (pe_ix (ix_tupK K rfl) (pv 9) (pv 10) (fun _ _ => rfl)) pe_int (fun _ _ => rfl)) pe_str (nomark _)) (pss_one (ps_set (i := 6) sc__law_rule_stands.nd rfl (Or.inl rfl) (pe_op op_add (pv 6) pe_int))) (pss_cons (ps_dput hu (pv 4) (pv 7) (pv 6) rfl)
      (pss_cons (ps_set (i := 6) sc__law_rule_stands.nd rfl (Or.inl rfl) (pe_op op_add (pv 6) (pe_ix (ix_tupK K rfl) (pe_ix (ix_listK K rfl) (pv 3) (pv 7) (fun _ _ => rfl)) pe_int (fun _ _ => rfl))))
      (pss_cons (ps_set (i := 8) sc__law_rule_stands.nd rfl (Or.inl rfl) (pe_callB (call_max2 rfl) (by rfl) T.z_max PyProof.Rows.Boot.«max» (pa_cons (pv 8) (pa_cons (pe_ix (ix_tupK K rfl) (pe_ix (ix_listK K rfl) (pv 3) (pv 7) (fun _ _ => rfl)) pe_int (fun _ _ => rfl)) pa_nil))))
      (pss_one (ps_set (i := 7) sc__law_rule_stands.nd rfl (Or.inl rfl) (pe_op op_add (pv 7) (pe_ix (ix_tupK K rfl) (pe_ix (ix_listK K rfl) (pv 3) (pv 7) (fun _ _ => rfl)) pe_int (fun _ _ => rfl)))))))))
      (pss_one (ps_if (pt_not (pt_val (pe_call (G__law_low base) (hr.mono (by decide)) (by rfl) m__law_low k__law_low b__law_low .nil pass0 (pa_cs (pv 1) (pa_cs (pe_tup (pa_cs (pe_ix (ix_listK K rfl) (pv 2) (pv 5) (fun _ _ => rfl)) (pa_cs (pe_op op_add (pv 10) pe_int) (pa_cs (pe_dget hu (pv 4) (pv 5) (fun _ _ => rfl)) (pa_cs (pv 6) pa_nil))))) (pa_cs pe_int (pa_cs (pv 8) pa_nil))))))) (pss_one (ps_ret pe_bl)) pss_nil))))
      (pss_one (ps_ret (pe_call (G__law_low base) (hr.mono (by decide)) (by rfl) m__law_low k__law_low b__law_low .nil pass0 (pa_cs (pv 1) (pa_cs (pe_tup (pa_cons (pe_ix (ix_tupK K rfl) (pe_ix (ix_listK K rfl) (pv 0) (pe_ix (ix_listK K rfl) (pv 2) (pv 5) (fun _ _ => rfl)) (fun _ _ => rfl)) pe_int (fun _ _ => rfl)) (pa_cons (pe_dget hu (pv 4) (pv 5) (fun _ _ => rfl)) (pa_cons (pv 6) pa_nil)))) (pa_cs pe_int (pa_cs (pe_op op_add (pv 8) pe_int) pa_nil))))))))))))), ?_⟩
    cases hch with
    | done e => exact absurd e (Nat.ne_of_lt hk)
    | node hDk hdr er hnq f0 hpre hch2 =>
      rename_i kk b r k1 rest s1 h1
      have ek : ks[k]? = some kk := by
        have : ks[k]? = (ks.drop k)[0]? := by rw [List.getElem?_drop]; rfl
        rw [this, hdr]; rfl
      have ao : atI (ks.map nV) (k : Int) = some (nV kk) := atI_nat (j := k) (by rw [List.getElem?_map, ek]; rfl)
      have hok := rule_parts (rule_okB hg er)
      obtain ⟨tt, pp, ax, htt, hpp⟩ := rule_num hds er
      have dgk : ∀ {H2 : Hp} {kv2 : List (Key × V)} {D2 : Nat → Option Nat}, H2 bg = some (.dK kv2) → DOk kv2 D2 → D2 k = some b → DGet H2 bg (nV k) (some (nV b)) := fun {H2 kv2 D2} e1 e2 e3 => by
        have := DGet.k (k := .inl (k : Int)) e1
        rw [e2 k, e3] at this
        exact this
      refine ⟨_, rfl, _, rfl, bg, nV b, rfl, dgk hD hDo hDk, ?_⟩
      refine ⟨_, rfl, _, _, rfl, rfl, ?_⟩
      refine ⟨_, rfl, _, rfl, _, rfl, o, _, _, _, rfl, rfl, SqL.of (s0 _ _ ho), ao, _, rfl, _, rfl, line1000 (by show 4 ≤ 1000; decide), fun n1 hn1 => ?_⟩
      have z1 := Same.upd (o := .tup [nV kk, .int 0, nV b, nV b]) hn1
      have l0 : lookN hs (.beg kk 0 b b) = some 0 := hb.bg kk b (List.getElem?_eq_some_iff.mp er).1 hpre.1
      refine ⟨f, n1, ob, hs, .beg kk 0 b b, 0, 0, 0, rfl, (s0.trans z1) _ _ hf, upd_same, l0, Nat.le_refl _, Nat.le_refl _, _, rfl, iteF ?_⟩
      have s2 := s0.trans z1
      have p2 : Plain (upd H n1 (.tup [nV kk, .int 0, nV b, nV b])) := p0.upd rfl
      have hD2 : upd H n1 (.tup [nV kk, .int 0, nV b, nV b]) bg = some (.dK kvs) := z1 _ _ hD
      revert s2 p2 hD2
      generalize hH2 : upd H n1 (.tup [nV kk, .int 0, nV b, nV b]) = H2
      intro s2 p2 hD2
      have hH2' : upd H n1 (.tup [V.int (kk : Int), V.int 0, nV b, nV b]) = H2 := hH2
      refine ⟨_, rfl, _, rfl, _, rfl, o, _, _, _, rfl, rfl, SqL.of (s2 _ _ ho), ao, l, _, _, _, rfl, rfl, SqL.of (s2 _ _ hl), ax, tt, _, 1, _, rfl, rfl, SqT.of (s2 _ _ htt), rfl, ?_⟩
      refine ⟨_, rfl, pp, _, rfl, .inr (SqT.of (s2 _ _ hpp)), (r.2.1.length : Int), by rw [List.length_map], (in62 (by omega) (by omega)).1, (in62 (by omega) (by omega)).2, ?_⟩
      obtain ⟨Inv, hInv⟩ : ∃ Inv : Nat → Option V → St → Hp → Prop, Inv = fun d v10 σ H3 => ∃ (e c h0 a : Nat) (D3 : Nat → Option Nat) (kv3 : List (Key × V)) (k3 s3 : List Nat) (h3 : Nat), σ = [some (.ref l), some (.ref f), some (.ref o), some (.ref t), some (.ref bg), some (nV k), some (nV e), some (nV c), some (nV h0), some (.ref pp), v10] ∧ For g (r.2.1.drop d) k3 s3 h3 ∧ ks.drop c = k3 ++ rest ∧ c + k3.length = k + 1 + k1.length ∧ PreAt cs e s3 ∧ lookN hs (.beg kk d b e) = some a ∧ a ≤ h0 ∧ Same G H3 ∧ Plain H3 ∧ H3 bg = some (.dK kv3) ∧ DOk kv3 D3 ∧ kv3.length ≤ 1 + 6 * k + d ∧ (∀ j, c ≤ j → D3 j = D j) ∧ D3 k = some b ∧ k < c ∧ ∀ D' : Nat → Option Nat, (∀ j, j < c → D' j = D3 j) → Chain g ks cs D' c → Chain g ks cs D' (k + 1) := ⟨_, rfl⟩
      refine for_range (lo := 0) (n := ((r.2.1.length : Nat) : Int).toNat) (fun d σ H3 => ∃ v10, Inv d v10 σ H3) ⟨none, ?_⟩ ?_ ?_
      · rw [hInv]
        exact ⟨b, k + 1, 0, 0, D, kvs, k1, s1, h1, rfl, f0, drop_next hdr, rfl, hpre, l0, Nat.le_refl _, s2, p2, hD2, hDo, hDl, fun _ _ => rfl, hDk, Nat.lt_succ_self _, fun _ _ h => h⟩
      · rintro d σ H3 hd ⟨v10, hi⟩
        rw [hInv] at hi
        obtain ⟨e, c, h0, a, D3, kv3, k3, s3, h3, rfl, hf3, hdr3, hc3, hpre3, hl3, ha3, sG3, p3, hD3, hDo3, hkv3, hge3, hDk3, hkc3, hcont⟩ := hi
        have hdl : d < r.2.1.length := by omega
        have ep : r.2.1[d]? = some r.2.1[d] := List.getElem?_eq_getElem hdl
        have edp : r.2.1.drop d = r.2.1[d] :: r.2.1.drop (d + 1) := List.drop_eq_getElem_cons hdl
        generalize r.2.1[d] = p at ep edp
        rw [edp] at hf3
        have hpart := hok.2 p (List.mem_of_getElem? ep)
        obtain ⟨ch, hch0, hlz, hdec⟩ := part_first hpart
        have ap : atI (r.2.1.map V.str) (d : Int) = some (.str p) := atI_nat (j := d) (by rw [List.getElem?_map, ep]; rfl)
        have hpa : partAt g kk d = some p := by unfold partAt; rw [er]; exact ep
        dsimp only [gName]
        rw [Int.zero_add]
        refine seq_rest (t := tIfS _ _ _) (fun σ' H' => Inv (d + 1) (some (nV d)) σ' H') ?_ fun rest' => ?_
        · intro σ' H4 hi
          have hi0 := hi
          rw [hInv] at hi
          obtain ⟨e, c, h0, a, D3, kv3, k3, s3, h3, rfl, hf3, hdr3, hc3, hpre3, hl3, ha3, sG3, p3, hD3, hDo3, hkv3, hge3, hDk3, hkc3, hcont⟩ := hi
          refine ⟨_, rfl, _, rfl, _, rfl, o, _, _, _, rfl, rfl, SqL.of (sG3 _ _ ho), ao, _, rfl, _, _, rfl, rfl, _, rfl, _, rfl, bg, nV b, rfl, dgk hD3 hDo3 hDk3, _, rfl, line1000 (by show 4 ≤ 1000; decide), fun n hn => ?_⟩
          have z := Same.upd (o := .tup [nV kk, .int ((d : Int) + 1), nV b, nV e]) hn
          refine ⟨_, rfl, f, n, ob, hs, .beg kk (d + 1) b e, a, 0, h0, rfl, (sG3.trans z) _ _ hf, upd_same, hl3, Nat.zero_le _, ha3, _, rfl, iteF ?_⟩
          rw [hInv]
          exact ⟨_, e, c, h0, a, D3, kv3, k3, s3, h3, rfl, hf3, hdr3, hc3, hpre3, hl3, ha3, sG3.trans z, p3.upd rfl, z _ _ hD3, hDo3, hkv3, hge3, hDk3, hkc3, hcont⟩
        · refine ⟨_, rfl, _, rfl, pp, _, _, _, rfl, rfl, SqT.of (sG3 _ _ hpp), ap, p, 0, ch, rfl, rfl, line1000 (by omega), hch0, rfl, _, rfl, ?_⟩
          rw [hdec]
          cases hf3 with
          | sign hq hf4 =>
            rename_i s4
            rw [hq]
            obtain ⟨hc, hpre4⟩ := hpre3.head
            obtain ⟨v, hv1, hv2⟩ := st_sign hg st hb hpa hpart hq hc hl3
            refine ⟨_, rfl, _, _, rfl, rfl, rest' _ _ ?_⟩
            rw [hInv]
            exact ⟨e + 1, c, h0, v, D3, kv3, k3, _, h3, rfl, hf4, hdr3, hc3, hpre4, hv1, by omega, sG3, p3, hD3, hDo3, by omega, hge3, hDk3, hkc3, hcont⟩
          | name e0 hq hk0 f1 f2 =>
            rename_i r0 k0 ka kb sa sb ha hb'
            rw [hq]
            obtain ⟨hpa1, hpa2⟩ := hpre3.app
            have hdr3' : ks.drop c = k0 :: (ka ++ (kb ++ rest)) := by rw [hdr3, List.cons_append, List.append_assoc]
            have hcl : c < ks.length := by
              have := congrArg List.length hdr3'
              rw [List.length_drop, List.length_cons] at this
              omega
            obtain ⟨a1, ea1, ga1⟩ := has.at_ (hrt.at_ hdr3' hk0 f1)
            have at1 : atI (as.map V.ref) (c : Int) = some (.ref a1) := atI_nat (j := c) (by rw [List.getElem?_map, ea1]; rfl)
            refine ⟨_, rfl, _, rfl, _, rfl, bg, _, rfl, DPut.k (k := .inl (c : Int)) hD3 (by rw [sizeLine_eq]; omega), ?_⟩
            have sG4 : Same G (upd H3 bg (.dK (putK kv3 (.inl (c : Int)) (nV e)))) := sG3.put hbg
            have p4 : Plain (upd H3 bg (.dK (putK kv3 (.inl (c : Int)) (nV e)))) := p3.upd rfl
            have hD4 : upd H3 bg (.dK (putK kv3 (.inl (c : Int)) (nV e))) bg = some (.dK (putK kv3 (.inl (c : Int)) (nV e))) := upd_same
            revert sG4 p4 hD4
            generalize upd H3 bg (.dK (putK kv3 (.inl (c : Int)) (nV e))) = H4
            intro sG4 p4 hD4
            have sqt := SqL.of (K := K) (sG4 _ _ ht)
            have sqa := SqT.of (K := K) (sG4 _ _ ga1)
            refine ⟨_, rfl, _, rfl, _, rfl, t, _, _, _, rfl, rfl, sqt, at1, a1, _, 0, _, rfl, rfl, sqa, rfl, _, _, rfl, rfl, ?_⟩
            refine ⟨_, rfl, _, rfl, _, rfl, t, _, _, _, rfl, rfl, sqt, at1, a1, _, 1, _, rfl, rfl, sqa, rfl, _, _, rfl, ?_⟩
            refine ⟨_, rfl, _, rfl, _, rfl, t, _, _, _, rfl, rfl, sqt, at1, a1, _, 2, _, rfl, rfl, sqa, rfl, _, _, rfl, rfl, rest' _ _ ?_⟩
            obtain ⟨v1, hv1, hv2⟩ := st_name hg st hb hk0 f1 hpa1
            rw [e0] at hv1
            obtain ⟨v, hv3, hv4⟩ := st.cl.join kk d b e p (e + sa.length) a v1 ⟨_, hl3⟩ ⟨_, hv1⟩ hpa hl3 hv1
            have hdc : ks.drop (c + (1 + ka.length)) = kb ++ rest := by
              rw [← List.drop_drop, hdr3', Nat.add_comm, List.drop_succ_cons, List.drop_left]
            have hkv4 := putK_le kv3 (.inl (c : Int)) (nV e)
            rw [List.length_cons, List.length_append] at hc3
            rw [hInv]
            refine ⟨e + sa.length, c + (1 + ka.length), max h0 (ha + 1), v, putD D3 c e, _, kb, sb, hb', by rw [← maxV]; rfl, f2, hdc, by omega, hpa2, hv3, by omega, sG4, p4, hD4, hDo3.put c e, by omega, fun j hj => ?_, ?_, by omega, fun D' hD' hch' => ?_⟩
            · unfold putD
              rw [if_neg (by omega)]
              exact hge3 j (by omega)
            · unfold putD
              rw [if_neg (by omega)]
              exact hDk3
            · refine hcont D' (fun j hj => ?_) (.node (b := e) (k1 := ka) ?_ hdr3' hk0 (by rw [e0]; exact hq) f1 hpa1 (by rw [Nat.add_assoc]; exact hch'))
              · rw [hD' j (by omega)]
                unfold putD
                rw [if_neg (by omega)]
              · rw [hD' c (by omega)]
                unfold putD
                rw [if_pos rfl]
      · rintro σ H3 ⟨v10, hi⟩
        rw [hInv] at hi
        obtain ⟨e, c, h0, a, D3, kv3, k3, s3, h3, rfl, hf3, hdr3, hc3, hpre3, hl3, ha3, sG3, p3, hD3, hDo3, hkv3, hge3, hDk3, hkc3, hcont⟩ := hi
        have en : ((r.2.1.length : Nat) : Int).toNat = r.2.1.length := by omega
        rw [en] at hf3 hl3 hkv3
        rw [List.drop_length] at hf3
        cases hf3
        obtain ⟨v, hv1, hv2⟩ := st.cl.up kk r b e a er ⟨_, hl3⟩ hl3
        have hv3 := st_one hg st hb hnq hv1
        refine ⟨_, rfl, _, rfl, _, rfl, _, rfl, o, _, _, _, rfl, rfl, SqL.of (sG3 _ _ ho), ao, l, _, _, _, rfl, rfl, SqL.of (sG3 _ _ hl), ax, tt, _, 0, _, rfl, rfl, SqT.of (sG3 _ _ htt), rfl, _, rfl, _, rfl, bg, nV b, rfl, dgk hD3 hDo3 hDk3, _, rfl, line1000 (by show 3 ≤ 1000; decide), fun n hn => ?_⟩
        have z := Same.upd (o := .tup [.str r.1, nV b, nV e]) hn
        refine ⟨_, rfl, _, _, rfl, rfl, f, n, ob, hs, .part r.1 b e, v, 1, h0 + 1, rfl, (sG3.trans z) _ _ hf, upd_same, hv1, hv3, by omega, ?_⟩
        refine q _ kv3 D3 (sG3.trans z) (p3.upd rfl) (z _ _ hD3) hDo3 (by have := hok.1; omega) (hcont D3 (fun _ _ => rfl) ?_)
        have ec : c = k + 1 + k1.length := hc3
        rw [ec]
        exact hch2.congr fun j hj => hge3 j (by omega)
end
end FR


set_option linter.all false
set_option maxRecDepth 100000
set_option maxHeartbeats 4000000
namespace FR
open PySem L2

theorem sgn_good {p : Str} (h : isPartS p = true) (hq : isQ p = true) : good (sgn p) = true := by
  unfold isPartS at h
  rw [Bool.or_eq_true] at h
  rcases h with h | h
  · unfold isSignS at h
    rw [Bool.and_eq_true] at h
    exact h.2
  · rw [isQ_code] at hq
    have hq := of_decide_eq_true hq
    unfold isNameS at h
    rw [Bool.and_eq_true] at h
    exact absurd (List.all_eq_true.mp h.2 39 (List.mem_of_getElem? hq)) (by decide)
theorem RowS.good {g : Gram} (hg : okGram g = true) {ws : List Str} {ks sg : List Nat} (h : RowS g ws ks sg) : (∀ p ∈ ws, isPartS p = true) → sg.all FR.good = true := by
  induction h with
  | nil => intro _; rfl
  | sign hq _ ih =>
    intro hw
    rw [List.all_cons, sgn_good (hw _ (List.mem_cons_self ..)) hq, ih fun p hp => hw p (List.mem_cons_of_mem _ hp)]
    rfl
  | name _ hk _ ih =>
    intro hw
    refine ih fun p hp => ?_
    rcases List.mem_append.mp hp with hp | hp
    · exact (rule_parts (rule_okB hg hk)).2 p hp
    · exact hw p (List.mem_cons_of_mem _ hp)
theorem row_top {g : Gram} {p : Str} {ks sg : List Nat} (hq : isQ p = false) (h : RowS g [p] ks sg) : (∃ w t, RowT g ks w t) ∧ Chain g ks sg (putD (fun _ => none) 0 0) 0 := by
  obtain ⟨m, f⟩ := h.tree
  obtain ⟨ts, tt, h1, _⟩ := f.rowT .nil
  rw [List.append_nil] at h1
  refine ⟨⟨_, _, h1⟩, ?_⟩
  cases f with
  | sign hq' _ => rw [hq] at hq'; cases hq'
  | name e _ hk f1 f2 =>
    cases f2
    refine .node rfl rfl hk (by rw [e]; exact hq) f1 ⟨Nat.zero_le _, [], rfl⟩ (.done ?_)
    rw [List.append_nil, List.length_cons]
    omega
theorem seq_asgC {v : V} {i : Nat} {u : TS} {D : Ends} {σ : St} {H : Hp} (h : u D (σ.set i (some v)) H) : tSeq (tAsg (tC v) (gName i)) u D σ H := h
theorem dok_nil : DOk [] (fun _ => none) := fun _ => rfl
section
variable {P : Program} {w : World} {K : PySem.W.Frag} {mg : Str → Option Value} {base : Heap} {C : Adr}
theorem sc_law : FnScope ["_law_script", "_law_rules", "_law_room", "_law_row_here", "_law_text", "_law_found", "_law_tree_here", "_law_begins", "_law_k"] ["_law_script"] (defScope s_law) := ⟨rfl, rfl, rfl, by decide +kernel, rfl, by decide +kernel, by decide +kernel⟩
theorem ok_law {f : Addr} {fd : FuncData} (F : Fun K "law" "law" s_law f fd) (T : Txt K mg C) (U__law_grammar : Used P w K mg CX0 3 "_law_grammar" ["_law_script"] (spGram K)) (U__law_row : Used P w K mg CX0 3 "_law_row" ["_law_grammar_here", "_law_cells", "_law_room"] (spRowM K)) (U__law_read : Used P w K mg CX0 1 "_law_read" ["_law_grammar_here", "_law_row_here"] (spRead)) (U_standing : Used P w K mg (CXo P w) 8 "standing" ["grammar", "text"] (spStanding C.NoGrammar C.NoText)) (U__law_tree : Used P w K mg CX0 1 "_law_tree" ["_law_rules", "_law_row_here"] (spTree)) (U__law_heights : Used P w K mg CX0 3 "_law_heights" ["_law_found"] (spHeights)) (U__law_mixed : Used P w K mg CX0 2 "_law_mixed" ["_law_script", "_law_k"] (spMixed K)) (U__law_rule_stands : Used P w K mg CX0 2 "_law_rule_stands" ["_law_rules", "_law_found", "_law_row_here", "_law_tree_here", "_law_begins", "_law_k"] (spRuleSt)) : FnOk P w K mg base CX0 10 f fd ["_law_script"] (spLaw K) := by
  obtain ⟨f__law_grammar, fd__law_grammar, G__law_grammar, m__law_grammar, k__law_grammar, b__law_grammar⟩ := U__law_grammar.ok
  obtain ⟨f__law_row, fd__law_row, G__law_row, m__law_row, k__law_row, b__law_row⟩ := U__law_row.ok
  obtain ⟨f__law_read, fd__law_read, G__law_read, m__law_read, k__law_read, b__law_read⟩ := U__law_read.ok
  obtain ⟨f_standing, fd_standing, G_standing, m_standing, k_standing, b_standing⟩ := U_standing.ok
  obtain ⟨f__law_tree, fd__law_tree, G__law_tree, m__law_tree, k__law_tree, b__law_tree⟩ := U__law_tree.ok
  obtain ⟨f__law_heights, fd__law_heights, G__law_heights, m__law_heights, k__law_heights, b__law_heights⟩ := U__law_heights.ok
  obtain ⟨f__law_mixed, fd__law_mixed, G__law_mixed, m__law_mixed, k__law_mixed, b__law_mixed⟩ := U__law_mixed.ok
  obtain ⟨f__law_rule_stands, fd__law_rule_stands, G__law_rule_stands, m__law_rule_stands, k__law_rule_stands, b__law_rule_stands⟩ := U__law_rule_stands.ok
  refine F.ok sc_law (fun vs H Q E h => ?_) (fun cdv A outer s H vs Q E hr h => ?_)
  · obtain ⟨a, ns, rfl, _⟩ := h
    rfl
  · obtain ⟨a, ns, rfl, hS, hn, hp, q⟩ := h
    have hu := hu_of hr
    have hU := hr.units
    refine qex ?_
    refine ⟨_, (qss_cons ⟨(ps_set (i := 1) sc_law.nd rfl (Or.inl rfl) (pe_call (G__law_grammar base) (hr.mono (by decide)) (by rfl) m__law_grammar k__law_grammar b__law_grammar .nil pass0 (pa_cons (pv 0) pa_nil)))⟩
      (qss_cons (qs_set (i := 2) sc_law.nd rfl (Or.inl rfl) qe_int)
      (qss_cons ⟨(ps_if (pt_cmpR op_eq (pe_op op_mod (pe_call (G__law_mixed base) (hr.mono (by decide)) (by rfl) m__law_mixed k__law_mixed b__law_mixed .nil pass0 (pa_cons (pv 0) (pa_cons pe_int pa_nil))) pe_int) pe_int (nomark _)) (pss_one (ps_set (i := 2) sc_law.nd rfl (Or.inl rfl) pe_int)) pss_nil)⟩
      (qss_cons ⟨(ps_set (i := 3) sc_law.nd rfl (Or.inl rfl) (pe_call (G__law_row base) (hr.mono (by decide)) (by rfl) m__law_row k__law_row b__law_row .nil pass0 (pa_cons (pv 1) (pa_cons (pe_slice (sl_listK K rfl) (pv 0) (po_some pe_int) (po_some pe_int)) (pa_cons (pv 2) pa_nil)))))⟩
      (qss_cons ⟨(ps_set (i := 4) sc_law.nd rfl (Or.inl rfl) (pe_call (G__law_read base) (hr.mono (by decide)) (by rfl) m__law_read k__law_read b__law_read .nil pass0 (pa_cons (pv 1) (pa_cons (pv 3) pa_nil))))⟩
      (qss_cons ⟨(ps_set (i := 5) sc_law.nd rfl (Or.inl rfl) (pe_call (G_standing base) (hr.mono (by decide)) (by rfl) m_standing k_standing b_standing .nil passX (pa_cons (pe_callTy (call_list_ofK K rfl) (by rfl) T.z_list PyProof.Rows.Boot.«list» (pa_cons (pv 1) pa_nil)) (pa_cons (pv 4) pa_nil))))⟩
      (qss_cons ⟨(ps_if (pt_not (pt_val (pe_call (G__law_heights base) (hr.mono (by decide)) (by rfl) m__law_heights k__law_heights b__law_heights .nil pass0 (pa_cons (pv 5) pa_nil)))) (pss_one (ps_ret pe_bl)) pss_nil)⟩
      (qss_cons ⟨(ps_set (i := 6) sc_law.nd rfl (Or.inl rfl) (pe_call (G__law_tree base) (hr.mono (by decide)) (by rfl) m__law_tree k__law_tree b__law_tree .nil pass0 (pa_cons (pv 1) (pa_cons (pv 3) pa_nil))))⟩
      (qss_cons ⟨(ps_set (i := 7) sc_law.nd rfl (Or.inl rfl) (pe_disp (pps_cons pe_int pe_int pps_nil) rfl rfl (fun z => nomatch z) (by simp)))⟩
      (qss_cons ⟨(ps_for PassesOwn.never rfl (pi_range1 rfl T.z_range (pa_cons (pe_callB (call_len_seqK K rfl) (by rfl) T.z_len PyProof.Rows.Boot.«len» (pa_cons (pv 3) pa_nil)) pa_nil)) (pg_name (i := 8) sc_law.nd rfl (Or.inl rfl)) (pss_one (ps_if (pt_not (pt_val (pe_call (G__law_rule_stands base) (hr.mono (by decide)) (by rfl) m__law_rule_stands k__law_rule_stands b__law_rule_stands .nil pass0 (pa_cs (pv 1) (pa_cs (pv 5) (pa_cs (pv 3) (pa_cs (pv 6) (pa_cs (pv 7) (pa_cs (pv 8) pa_nil))))))))) (pss_one (ps_ret pe_bl)) pss_nil)))⟩
      (qss_one ⟨(ps_ret pe_bl)⟩))))))))))), ?_⟩
    refine ⟨_, rfl, a, ns, rfl, hS, hn, hp, fun l xs g H1 hg hgk s1 p1 hl0 hl hds => ?_⟩
    dsimp only [gName]
    refine seq_asgC ?_
    refine seq_rest (t := tIfS _ _ _) (fun σ' H' => ∃ R : Nat, 2 ≤ R ∧ R ≤ 9 ∧ σ' = [some (.ref a), some (.ref l), some (nV R), none, none, none, none, none, none] ∧ H' = H1) ?_ fun rest' => ?_
    · rintro σ' H' ⟨R, hR2, hR9, rfl, rfl⟩
      obtain ⟨cs0, ecs, hcs⟩ := cut_ints ns (some 11) (some 74)
      refine ⟨_, rfl, _, rfl, 11, rfl, 74, rfl, a, _, rfl, s1.seq hS, fun c hc => ?_⟩
      rw [ecs]
      have sc := Same.upd (o := .lst (cs0.map V.int)) hc
      refine ⟨_, rfl, l, c, xs, g, cs0, R, rfl, hR2, by omega, sc _ _ hl, hds.same sc, hg, hgk, SqL.of upd_same, by omega, p1.upd rfl, fun o r0 rest ks sg H2 eg hrow hsg hks s2 p2 ho0 ho => ?_⟩
      have s12 := sc.trans s2
      have hl2 := s12 _ _ hl
      have hds2 := hds.same s12
      clear hds hl ho0 s12 sc s2 p1
      have hn0 : isQ r0.1 = false := name_noQ (rule_head (rule_okB hg (i := 0) (by rw [eg]; rfl)))
      obtain ⟨⟨w0, tr, hrt⟩, hch⟩ := row_top hn0 hrow
      have htx : isTextS ⟨sg.toArray⟩ = true := by
        unfold isTextS
        rw [Bool.and_eq_true]
        refine ⟨decide_eq_true (by show sg.toArray.size ≤ 60; rw [List.size_toArray]; omega), ?_⟩
        exact hrow.good hg fun p hp => by
          cases List.mem_singleton.mp hp
          exact name_partB (rule_head (rule_okB hg (i := 0) (by rw [eg]; rfl)))
      refine ⟨_, rfl, _, rfl, l, o, xs, r0, rest, ks, sg, rfl, hl2, by rw [← eg]; exact hds2, by rw [← eg]; exact hg, ho, by rw [← eg]; exact hrow, by omega, p2, fun H3 s3 p3 => ?_⟩
      have hl3 := s3 _ _ hl2
      have ho3 := s3 _ _ ho
      have hds3 := hds2.same s3
      refine ⟨_, rfl, l, _, rfl, .inl (SqL.of hl3), fun l2 hl2' => ?_⟩
      have s4 := Same.upd (o := .lst xs) hl2'
      refine ⟨_, rfl, .ref l2, .str ⟨sg.toArray⟩, gramD g, .str ⟨sg.toArray⟩, rfl, .lst (.inl upd_same) (hds3.same s4), short_gram hg, .str _, (by unfold D.short; exact decide_eq_true (by show sg.length ≤ 1000; omega)), p3.upd rfl, fun g' z eg' hg' ez hz fa ob hs H5 st hb hfa0 hfa s5 p5 => ?_, fun e => ?_, fun _ e => ?_⟩
      · cases gramD_inj eg'
        cases ez
        have s35 := s4.trans s5
        have st : StandOk g sg hs := st
        have hb : BaseOk g sg hs := hb
        refine ⟨_, rfl, fa, ob, hs, rfl, hfa, p5, fun H6 s6 p6 => ⟨_, rfl, iteF ?_⟩⟩
        have s36 := s35.trans s6
        refine ⟨_, rfl, _, rfl, l, o, xs, g, ks, w0, tr, rfl, s36 _ _ hl3, hds3.same s36, hg, s36 _ _ ho3, hrt, hks, p6, fun ta as H7 s7 p7 hta has => ?_⟩
        have s37 := s36.trans s7
        intro bg hbg
        refine ⟨upd_same, [(.inl 0, .int 0)], rfl, by decide, ?_⟩
        have sb := Same.upd (o := .dK [(.inl 0, .int 0)]) hbg
        have eb : ∀ kv, upd (upd H7 bg (.dK [])) bg kv = upd H7 bg kv := fun kv => by funext z; unfold upd; split <;> rfl
        rw [eb]
        have hD : upd H7 bg (.dK (mergeK [] [(.inl 0, .int 0)])) bg = some (.dK (putK [] (.inl 0) (nV 0))) := upd_same
        have s8 : Same H7 (upd H7 bg (.dK (mergeK [] [(.inl 0, .int 0)]))) := Same.upd hbg
        have p8 : Plain (upd H7 bg (.dK (mergeK [] [(.inl 0, .int 0)]))) := p7.upd rfl
        revert hD s8 p8
        generalize upd H7 bg (.dK (mergeK [] [(.inl 0, .int 0)])) = H8
        intro hD s8 p8
        refine ⟨_, rfl, o, _, rfl, .inl (SqL.of ((s37.trans s8) _ _ ho3)), (ks.length : Int), by rw [List.length_map], (in62 (by omega) (by omega)).1, (in62 (by omega) (by omega)).2, ?_⟩
        refine for_range (lo := 0) (n := ((ks.length : Nat) : Int).toNat) (fun k σ H9 => ∃ (kv : List (Key × V)) (D : Nat → Option Nat) (v8 : Option V), σ = [some (.ref a), some (.ref l), some (nV R), some (.ref o), some (.str ⟨sg.toArray⟩), some (.ref fa), some (.ref ta), some (.ref bg), v8] ∧ Same H7 H9 ∧ Plain H9 ∧ H9 bg = some (.dK kv) ∧ DOk kv D ∧ kv.length ≤ 1 + 6 * k ∧ Chain g ks sg D k)
          ⟨_, _, none, rfl, s8, p8, hD, dok_nil.put 0 0, by decide, hch⟩ ?_ ?_
        · rintro k σ H9 hk ⟨kv, D, v8, rfl, s9, p9, hD9, hDo, hkv, hch9⟩
          have ek : (0 : Int) + (k : Int) = (k : Int) := Int.zero_add _
          dsimp only [gName]
          rw [ek]
          refine ⟨_, rfl, _, rfl, _, rfl, _, rfl, _, rfl, _, rfl, H7, l, fa, o, ta, bg, ob, xs, g, sg, ks, hs, as, w0, tr, D, kv, k, rfl, s37 _ _ hl3, hds3.same s37, hg, (s6.trans s7) _ _ hfa, st, hb, s37 _ _ ho3, hks, hta, has, hrt, hbg, s9, p9, hD9, hDo, hkv, hch9, by omega, fun H10 kv' D' s10 p10 hD10 hDo10 hkv10 hch10 => ⟨_, rfl, iteF ⟨kv', D', _, rfl, s10, p10, hD10, hDo10, hkv10, hch10⟩⟩⟩
        · rintro σ H9 ⟨kv, D, v8, rfl, _⟩
          exact q _
      · rw [isGramD_gramD, hg] at e
        cases e
      · have e : isTextS ⟨sg.toArray⟩ = false := e
        rw [htx] at e
        cases e
    · refine ⟨_, rfl, a, ns, 10, rfl, s1.seq hS, by decide, by decide, fun way wa wb => ⟨_, _, rfl, rfl, (show (0 : Int) < 8 by decide), rfl, _, rfl, ?_⟩⟩
      refine ite2 (fun _ => ?_) fun _ => ?_
      · exact rest' _ _ ⟨9, by decide, by decide, rfl, rfl⟩
      · exact rest' _ _ ⟨5, by decide, by decide, rfl, rfl⟩
end
end FR


set_option linter.all false
set_option maxRecDepth 100000
set_option maxHeartbeats 4000000
namespace FR
open PySem L2
theorem all_mk {l : PySem.W.OpenLaw} {w : World} {K : PySem.W.Frag} {h : Heap} {mg : Str → Option Value} {fa c_NoGrammar c_NoText c_Growth f0 f1 f2 f3 f4 f5 f6 f7 f8 f9 f10 f11 f12 f13 f14 f15 f16 f17 f18 f19 f20 f21 f22 f23 f24 f25 f26 f27 f28 f29 f30 f31 f32 f33 f34 f35 f36 f37 f38 : Addr} (X : K.In h) (G : h.Ns mainGlobals mg) (hfa : mg "law" = some (.ref fa))
    {od0 od1 od2 od3 od4 od5 od6 od7 od8 od9 od10 od11 od12 od13 od14 od15 od16 od17 od18 od19 od20 od21 od22 od23 od24 od25 od26 od27 od28 od29 od30 od31 od32 od33 od34 od35 od36 od37 od38 an0 an1 an2 an3 an4 an5 an6 an7 an8 an9 an10 an11 an12 an13 an14 an15 an16 an17 an18 an19 an20 an21 an22 an23 an24 an25 an26 an27 an28 an29 an30 an31 an32 an33 an34 an35 an36 an37 an38 : Option Addr} {sl0 sl1 sl2 sl3 sl4 sl5 sl6 sl7 sl8 sl9 sl10 sl11 sl12 sl13 sl14 sl15 sl16 sl17 sl18 sl19 sl20 sl21 sl22 sl23 sl24 sl25 sl26 sl27 sl28 sl29 sl30 sl31 sl32 sl33 sl34 sl35 sl36 sl37 sl38 : Array (Option Value)} {oc0 oc1 oc2 oc3 oc4 oc5 oc6 oc7 oc8 oc9 oc10 oc11 oc12 oc13 oc14 oc15 oc16 oc17 oc18 oc19 oc20 oc21 oc22 oc23 oc24 oc25 oc26 oc27 oc28 oc29 oc30 oc31 oc32 oc33 oc34 oc35 oc36 oc37 oc38 kV0 kV1 kV2 kV3 kV4 kV5 kV6 kV7 kV8 kV9 kV10 kV11 kV12 kV13 kV14 kV15 kV16 kV17 kV18 kV19 kV20 kV21 kV22 kV23 kV24 kV25 kV26 kV27 kV28 kV29 kV30 kV31 kV32 kV33 kV34 kV35 kV36 kV37 kV38 dc0 dc1 dc2 dc3 dc4 dc5 dc6 dc7 dc8 dc9 dc10 dc11 dc12 dc13 dc14 dc15 dc16 dc17 dc18 dc19 dc20 dc21 dc22 dc23 dc24 dc25 dc26 dc27 dc28 dc29 dc30 dc31 dc32 dc33 dc34 dc35 dc36 dc37 dc38 pm0 pm1 pm2 pm3 pm4 pm5 pm6 pm7 pm8 pm9 pm10 pm11 pm12 pm13 pm14 pm15 pm16 pm17 pm18 pm19 pm20 pm21 pm22 pm23 pm24 pm25 pm26 pm27 pm28 pm29 pm30 pm31 pm32 pm33 pm34 pm35 pm36 pm37 pm38 cd0 cd1 cd2 cd3 cd4 cd5 cd6 cd7 cd8 cd9 cd10 cd11 cd12 cd13 cd14 cd15 cd16 cd17 cd18 cd19 cd20 cd21 cd22 cd23 cd24 cd25 cd26 cd27 cd28 cd29 cd30 cd31 cd32 cd33 cd34 cd35 cd36 cd37 cd38 ct0 ct1 ct2 ct3 ct4 ct5 ct6 ct7 ct8 ct9 ct10 ct11 ct12 ct13 ct14 ct15 ct16 ct17 ct18 ct19 ct20 ct21 ct22 ct23 ct24 ct25 ct26 ct27 ct28 ct29 ct30 ct31 ct32 ct33 ct34 ct35 ct36 ct37 ct38 : Value} {tFIRST_CODE tLAST_CODE tPERCENT_CODE tMOST_LETTERS tMOST_PARTS tMOST_RULES tMOST_SIGNS : Tok}
    (nNoGrammar : PySem.W.nsIn K mainGlobals "NoGrammar" = some (some (.ref c_NoGrammar)))
    (nNoText : PySem.W.nsIn K mainGlobals "NoText" = some (some (.ref c_NoText)))
    (nGrowth : PySem.W.nsIn K mainGlobals "Growth" = some (some (.ref c_Growth)))
    (d0 : PySem.W.nsIn K mainGlobals "is_whole" = some (some (.ref f0)))
    (l0 : K.lookup f0 = some ⟨oc0, od0, .func (PySem.W.fnOf "is_whole" "is_whole" (defArgs s_is_whole) (defBody s_is_whole) (defScope s_is_whole) .none kV0 dc0 pm0 an0 cd0 ct0), sl0⟩)
    (c0 : PySem.W.codeIn K cd0 "is_whole" = true)
    (k0 : PySem.W.keepIn K (.ref f0) = true)
    (d1 : PySem.W.nsIn K mainGlobals "stands_in_texts" = some (some (.ref f1)))
    (l1 : K.lookup f1 = some ⟨oc1, od1, .func (PySem.W.fnOf "stands_in_texts" "stands_in_texts" (defArgs s_stands_in_texts) (defBody s_stands_in_texts) (defScope s_stands_in_texts) .none kV1 dc1 pm1 an1 cd1 ct1), sl1⟩)
    (c1 : PySem.W.codeIn K cd1 "stands_in_texts" = true)
    (k1 : PySem.W.keepIn K (.ref f1) = true)
    (d2 : PySem.W.nsIn K mainGlobals "is_sign" = some (some (.ref f2)))
    (l2 : K.lookup f2 = some ⟨oc2, od2, .func (PySem.W.fnOf "is_sign" "is_sign" (defArgs s_is_sign) (defBody s_is_sign) (defScope s_is_sign) .none kV2 dc2 pm2 an2 cd2 ct2), sl2⟩)
    (c2 : PySem.W.codeIn K cd2 "is_sign" = true)
    (k2 : PySem.W.keepIn K (.ref f2) = true)
    (d3 : PySem.W.nsIn K mainGlobals "is_name" = some (some (.ref f3)))
    (l3 : K.lookup f3 = some ⟨oc3, od3, .func (PySem.W.fnOf "is_name" "is_name" (defArgs s_is_name) (defBody s_is_name) (defScope s_is_name) .none kV3 dc3 pm3 an3 cd3 ct3), sl3⟩)
    (c3 : PySem.W.codeIn K cd3 "is_name" = true)
    (k3 : PySem.W.keepIn K (.ref f3) = true)
    (d4 : PySem.W.nsIn K mainGlobals "is_part" = some (some (.ref f4)))
    (l4 : K.lookup f4 = some ⟨oc4, od4, .func (PySem.W.fnOf "is_part" "is_part" (defArgs s_is_part) (defBody s_is_part) (defScope s_is_part) .none kV4 dc4 pm4 an4 cd4 ct4), sl4⟩)
    (c4 : PySem.W.codeIn K cd4 "is_part" = true)
    (k4 : PySem.W.keepIn K (.ref f4) = true)
    (d5 : PySem.W.nsIn K mainGlobals "is_worth" = some (some (.ref f5)))
    (l5 : K.lookup f5 = some ⟨oc5, od5, .func (PySem.W.fnOf "is_worth" "is_worth" (defArgs s_is_worth) (defBody s_is_worth) (defScope s_is_worth) .none kV5 dc5 pm5 an5 cd5 ct5), sl5⟩)
    (c5 : PySem.W.codeIn K cd5 "is_worth" = true)
    (k5 : PySem.W.keepIn K (.ref f5) = true)
    (d6 : PySem.W.nsIn K mainGlobals "are_parts" = some (some (.ref f6)))
    (l6 : K.lookup f6 = some ⟨oc6, od6, .func (PySem.W.fnOf "are_parts" "are_parts" (defArgs s_are_parts) (defBody s_are_parts) (defScope s_are_parts) .none kV6 dc6 pm6 an6 cd6 ct6), sl6⟩)
    (c6 : PySem.W.codeIn K cd6 "are_parts" = true)
    (k6 : PySem.W.keepIn K (.ref f6) = true)
    (d7 : PySem.W.nsIn K mainGlobals "is_rule" = some (some (.ref f7)))
    (l7 : K.lookup f7 = some ⟨oc7, od7, .func (PySem.W.fnOf "is_rule" "is_rule" (defArgs s_is_rule) (defBody s_is_rule) (defScope s_is_rule) .none kV7 dc7 pm7 an7 cd7 ct7), sl7⟩)
    (c7 : PySem.W.codeIn K cd7 "is_rule" = true)
    (k7 : PySem.W.keepIn K (.ref f7) = true)
    (d8 : PySem.W.nsIn K mainGlobals "is_grammar" = some (some (.ref f8)))
    (l8 : K.lookup f8 = some ⟨oc8, od8, .func (PySem.W.fnOf "is_grammar" "is_grammar" (defArgs s_is_grammar) (defBody s_is_grammar) (defScope s_is_grammar) .none kV8 dc8 pm8 an8 cd8 ct8), sl8⟩)
    (c8 : PySem.W.codeIn K cd8 "is_grammar" = true)
    (k8 : PySem.W.keepIn K (.ref f8) = true)
    (d9 : PySem.W.nsIn K mainGlobals "checked" = some (some (.ref f9)))
    (l9 : K.lookup f9 = some ⟨oc9, od9, .func (PySem.W.fnOf "checked" "checked" (defArgs s_checked) (defBody s_checked) (defScope s_checked) .none kV9 dc9 pm9 an9 cd9 ct9), sl9⟩)
    (c9 : PySem.W.codeIn K cd9 "checked" = true)
    (k9 : PySem.W.keepIn K (.ref f9) = true)
    (a10 : PySem.W.findIn K (.ref c_Growth) "__init__" = some (some (.ref f10)))
    (j10 : PySem.W.isFn K (.ref f10) = true)
    (l10 : K.lookup f10 = some ⟨oc10, od10, .func (PySem.W.fnOf "__init__" "Growth.__init__" (defArgs s_Growth___init__) (defBody s_Growth___init__) (defScope s_Growth___init__) .none kV10 dc10 pm10 an10 cd10 ct10), sl10⟩)
    (c10 : PySem.W.codeIn K cd10 "Growth.__init__" = true)
    (k10 : PySem.W.keepIn K (.ref f10) = true)
    (a11 : PySem.W.findIn K (.ref c_Growth) "stand" = some (some (.ref f11)))
    (j11 : PySem.W.isFn K (.ref f11) = true)
    (l11 : K.lookup f11 = some ⟨oc11, od11, .func (PySem.W.fnOf "stand" "Growth.stand" (defArgs s_Growth_stand) (defBody s_Growth_stand) (defScope s_Growth_stand) .none kV11 dc11 pm11 an11 cd11 ct11), sl11⟩)
    (c11 : PySem.W.codeIn K cd11 "Growth.stand" = true)
    (k11 : PySem.W.keepIn K (.ref f11) = true)
    (a12 : PySem.W.findIn K (.ref c_Growth) "stand_higher" = some (some (.ref f12)))
    (j12 : PySem.W.isFn K (.ref f12) = true)
    (l12 : K.lookup f12 = some ⟨oc12, od12, .func (PySem.W.fnOf "stand_higher" "Growth.stand_higher" (defArgs s_Growth_stand_higher) (defBody s_Growth_stand_higher) (defScope s_Growth_stand_higher) .none kV12 dc12 pm12 an12 cd12 ct12), sl12⟩)
    (c12 : PySem.W.codeIn K cd12 "Growth.stand_higher" = true)
    (k12 : PySem.W.keepIn K (.ref f12) = true)
    (a13 : PySem.W.findIn K (.ref c_Growth) "meet_part" = some (some (.ref f13)))
    (j13 : PySem.W.isFn K (.ref f13) = true)
    (l13 : K.lookup f13 = some ⟨oc13, od13, .func (PySem.W.fnOf "meet_part" "Growth.meet_part" (defArgs s_Growth_meet_part) (defBody s_Growth_meet_part) (defScope s_Growth_meet_part) .none kV13 dc13 pm13 an13 cd13 ct13), sl13⟩)
    (c13 : PySem.W.codeIn K cd13 "Growth.meet_part" = true)
    (k13 : PySem.W.keepIn K (.ref f13) = true)
    (a14 : PySem.W.findIn K (.ref c_Growth) "meet_beginning" = some (some (.ref f14)))
    (j14 : PySem.W.isFn K (.ref f14) = true)
    (l14 : K.lookup f14 = some ⟨oc14, od14, .func (PySem.W.fnOf "meet_beginning" "Growth.meet_beginning" (defArgs s_Growth_meet_beginning) (defBody s_Growth_meet_beginning) (defScope s_Growth_meet_beginning) .none kV14 dc14 pm14 an14 cd14 ct14), sl14⟩)
    (c14 : PySem.W.codeIn K cd14 "Growth.meet_beginning" = true)
    (k14 : PySem.W.keepIn K (.ref f14) = true)
    (a15 : PySem.W.findIn K (.ref c_Growth) "meet" = some (some (.ref f15)))
    (j15 : PySem.W.isFn K (.ref f15) = true)
    (l15 : K.lookup f15 = some ⟨oc15, od15, .func (PySem.W.fnOf "meet" "Growth.meet" (defArgs s_Growth_meet) (defBody s_Growth_meet) (defScope s_Growth_meet) .none kV15 dc15 pm15 an15 cd15 ct15), sl15⟩)
    (c15 : PySem.W.codeIn K cd15 "Growth.meet" = true)
    (k15 : PySem.W.keepIn K (.ref f15) = true)
    (a16 : PySem.W.findIn K (.ref c_Growth) "grow" = some (some (.ref f16)))
    (j16 : PySem.W.isFn K (.ref f16) = true)
    (l16 : K.lookup f16 = some ⟨oc16, od16, .func (PySem.W.fnOf "grow" "Growth.grow" (defArgs s_Growth_grow) (defBody s_Growth_grow) (defScope s_Growth_grow) .none kV16 dc16 pm16 an16 cd16 ct16), sl16⟩)
    (c16 : PySem.W.codeIn K cd16 "Growth.grow" = true)
    (k16 : PySem.W.keepIn K (.ref f16) = true)
    (d17 : PySem.W.nsIn K mainGlobals "is_text" = some (some (.ref f17)))
    (l17 : K.lookup f17 = some ⟨oc17, od17, .func (PySem.W.fnOf "is_text" "is_text" (defArgs s_is_text) (defBody s_is_text) (defScope s_is_text) .none kV17 dc17 pm17 an17 cd17 ct17), sl17⟩)
    (c17 : PySem.W.codeIn K cd17 "is_text" = true)
    (k17 : PySem.W.keepIn K (.ref f17) = true)
    (d18 : PySem.W.nsIn K mainGlobals "checked_text" = some (some (.ref f18)))
    (l18 : K.lookup f18 = some ⟨oc18, od18, .func (PySem.W.fnOf "checked_text" "checked_text" (defArgs s_checked_text) (defBody s_checked_text) (defScope s_checked_text) .none kV18 dc18 pm18 an18 cd18 ct18), sl18⟩)
    (c18 : PySem.W.codeIn K cd18 "checked_text" = true)
    (k18 : PySem.W.keepIn K (.ref f18) = true)
    (d19 : PySem.W.nsIn K mainGlobals "standing" = some (some (.ref f19)))
    (l19 : K.lookup f19 = some ⟨oc19, od19, .func (PySem.W.fnOf "standing" "standing" (defArgs s_standing) (defBody s_standing) (defScope s_standing) .none kV19 dc19 pm19 an19 cd19 ct19), sl19⟩)
    (c19 : PySem.W.codeIn K cd19 "standing" = true)
    (k19 : PySem.W.keepIn K (.ref f19) = true)
    (d20 : PySem.W.nsIn K mainGlobals "_law_cell_at" = some (some (.ref f20)))
    (l20 : K.lookup f20 = some ⟨oc20, od20, .func (PySem.W.fnOf "_law_cell_at" "_law_cell_at" (defArgs s__law_cell_at) (defBody s__law_cell_at) (defScope s__law_cell_at) .none kV20 dc20 pm20 an20 cd20 ct20), sl20⟩)
    (c20 : PySem.W.codeIn K cd20 "_law_cell_at" = true)
    (k20 : PySem.W.keepIn K (.ref f20) = true)
    (d21 : PySem.W.nsIn K mainGlobals "_law_mixed" = some (some (.ref f21)))
    (l21 : K.lookup f21 = some ⟨oc21, od21, .func (PySem.W.fnOf "_law_mixed" "_law_mixed" (defArgs s__law_mixed) (defBody s__law_mixed) (defScope s__law_mixed) .none kV21 dc21 pm21 an21 cd21 ct21), sl21⟩)
    (c21 : PySem.W.codeIn K cd21 "_law_mixed" = true)
    (k21 : PySem.W.keepIn K (.ref f21) = true)
    (d22 : PySem.W.nsIn K mainGlobals "_law_signs" = some (some (.ref f22)))
    (l22 : K.lookup f22 = some ⟨oc22, od22, .func (PySem.W.fnOf "_law_signs" "_law_signs" (defArgs s__law_signs) (defBody s__law_signs) (defScope s__law_signs) .none kV22 dc22 pm22 an22 cd22 ct22), sl22⟩)
    (c22 : PySem.W.codeIn K cd22 "_law_signs" = true)
    (k22 : PySem.W.keepIn K (.ref f22) = true)
    (d23 : PySem.W.nsIn K mainGlobals "_law_names" = some (some (.ref f23)))
    (l23 : K.lookup f23 = some ⟨oc23, od23, .func (PySem.W.fnOf "_law_names" "_law_names" (defArgs s__law_names) (defBody s__law_names) (defScope s__law_names) .none kV23 dc23 pm23 an23 cd23 ct23), sl23⟩)
    (c23 : PySem.W.codeIn K cd23 "_law_names" = true)
    (k23 : PySem.W.keepIn K (.ref f23) = true)
    (d24 : PySem.W.nsIn K mainGlobals "_law_worth" = some (some (.ref f24)))
    (l24 : K.lookup f24 = some ⟨oc24, od24, .func (PySem.W.fnOf "_law_worth" "_law_worth" (defArgs s__law_worth) (defBody s__law_worth) (defScope s__law_worth) .none kV24 dc24 pm24 an24 cd24 ct24), sl24⟩)
    (c24 : PySem.W.codeIn K cd24 "_law_worth" = true)
    (k24 : PySem.W.keepIn K (.ref f24) = true)
    (d25 : PySem.W.nsIn K mainGlobals "_law_parts" = some (some (.ref f25)))
    (l25 : K.lookup f25 = some ⟨oc25, od25, .func (PySem.W.fnOf "_law_parts" "_law_parts" (defArgs s__law_parts) (defBody s__law_parts) (defScope s__law_parts) .none kV25 dc25 pm25 an25 cd25 ct25), sl25⟩)
    (c25 : PySem.W.codeIn K cd25 "_law_parts" = true)
    (k25 : PySem.W.keepIn K (.ref f25) = true)
    (d26 : PySem.W.nsIn K mainGlobals "_law_grammar" = some (some (.ref f26)))
    (l26 : K.lookup f26 = some ⟨oc26, od26, .func (PySem.W.fnOf "_law_grammar" "_law_grammar" (defArgs s__law_grammar) (defBody s__law_grammar) (defScope s__law_grammar) .none kV26 dc26 pm26 an26 cd26 ct26), sl26⟩)
    (c26 : PySem.W.codeIn K cd26 "_law_grammar" = true)
    (k26 : PySem.W.keepIn K (.ref f26) = true)
    (d27 : PySem.W.nsIn K mainGlobals "_law_whole" = some (some (.ref f27)))
    (l27 : K.lookup f27 = some ⟨oc27, od27, .func (PySem.W.fnOf "_law_whole" "_law_whole" (defArgs s__law_whole) (defBody s__law_whole) (defScope s__law_whole) .none kV27 dc27 pm27 an27 cd27 ct27), sl27⟩)
    (c27 : PySem.W.codeIn K cd27 "_law_whole" = true)
    (k27 : PySem.W.keepIn K (.ref f27) = true)
    (d28 : PySem.W.nsIn K mainGlobals "_law_node" = some (some (.ref f28)))
    (l28 : K.lookup f28 = some ⟨oc28, od28, .func (PySem.W.fnOf "_law_node" "_law_node" (defArgs s__law_node) (defBody s__law_node) (defScope s__law_node) .none kV28 dc28 pm28 an28 cd28 ct28), sl28⟩)
    (c28 : PySem.W.codeIn K cd28 "_law_node" = true)
    (k28 : PySem.W.keepIn K (.ref f28) = true)
    (d29 : PySem.W.nsIn K mainGlobals "_law_heights" = some (some (.ref f29)))
    (l29 : K.lookup f29 = some ⟨oc29, od29, .func (PySem.W.fnOf "_law_heights" "_law_heights" (defArgs s__law_heights) (defBody s__law_heights) (defScope s__law_heights) .none kV29 dc29 pm29 an29 cd29 ct29), sl29⟩)
    (c29 : PySem.W.codeIn K cd29 "_law_heights" = true)
    (k29 : PySem.W.keepIn K (.ref f29) = true)
    (d30 : PySem.W.nsIn K mainGlobals "_law_shorts" = some (some (.ref f30)))
    (l30 : K.lookup f30 = some ⟨oc30, od30, .func (PySem.W.fnOf "_law_shorts" "_law_shorts" (defArgs s__law_shorts) (defBody s__law_shorts) (defScope s__law_shorts) .none kV30 dc30 pm30 an30 cd30 ct30), sl30⟩)
    (c30 : PySem.W.codeIn K cd30 "_law_shorts" = true)
    (k30 : PySem.W.keepIn K (.ref f30) = true)
    (d31 : PySem.W.nsIn K mainGlobals "_law_need" = some (some (.ref f31)))
    (l31 : K.lookup f31 = some ⟨oc31, od31, .func (PySem.W.fnOf "_law_need" "_law_need" (defArgs s__law_need) (defBody s__law_need) (defScope s__law_need) .none kV31 dc31 pm31 an31 cd31 ct31), sl31⟩)
    (c31 : PySem.W.codeIn K cd31 "_law_need" = true)
    (k31 : PySem.W.keepIn K (.ref f31) = true)
    (d32 : PySem.W.nsIn K mainGlobals "_law_open" = some (some (.ref f32)))
    (l32 : K.lookup f32 = some ⟨oc32, od32, .func (PySem.W.fnOf "_law_open" "_law_open" (defArgs s__law_open) (defBody s__law_open) (defScope s__law_open) .none kV32 dc32 pm32 an32 cd32 ct32), sl32⟩)
    (c32 : PySem.W.codeIn K cd32 "_law_open" = true)
    (k32 : PySem.W.keepIn K (.ref f32) = true)
    (d33 : PySem.W.nsIn K mainGlobals "_law_row" = some (some (.ref f33)))
    (l33 : K.lookup f33 = some ⟨oc33, od33, .func (PySem.W.fnOf "_law_row" "_law_row" (defArgs s__law_row) (defBody s__law_row) (defScope s__law_row) .none kV33 dc33 pm33 an33 cd33 ct33), sl33⟩)
    (c33 : PySem.W.codeIn K cd33 "_law_row" = true)
    (k33 : PySem.W.keepIn K (.ref f33) = true)
    (d34 : PySem.W.nsIn K mainGlobals "_law_read" = some (some (.ref f34)))
    (l34 : K.lookup f34 = some ⟨oc34, od34, .func (PySem.W.fnOf "_law_read" "_law_read" (defArgs s__law_read) (defBody s__law_read) (defScope s__law_read) .none kV34 dc34 pm34 an34 cd34 ct34), sl34⟩)
    (c34 : PySem.W.codeIn K cd34 "_law_read" = true)
    (k34 : PySem.W.keepIn K (.ref f34) = true)
    (d35 : PySem.W.nsIn K mainGlobals "_law_tree" = some (some (.ref f35)))
    (l35 : K.lookup f35 = some ⟨oc35, od35, .func (PySem.W.fnOf "_law_tree" "_law_tree" (defArgs s__law_tree) (defBody s__law_tree) (defScope s__law_tree) .none kV35 dc35 pm35 an35 cd35 ct35), sl35⟩)
    (c35 : PySem.W.codeIn K cd35 "_law_tree" = true)
    (k35 : PySem.W.keepIn K (.ref f35) = true)
    (d36 : PySem.W.nsIn K mainGlobals "_law_low" = some (some (.ref f36)))
    (l36 : K.lookup f36 = some ⟨oc36, od36, .func (PySem.W.fnOf "_law_low" "_law_low" (defArgs s__law_low) (defBody s__law_low) (defScope s__law_low) .none kV36 dc36 pm36 an36 cd36 ct36), sl36⟩)
    (c36 : PySem.W.codeIn K cd36 "_law_low" = true)
    (k36 : PySem.W.keepIn K (.ref f36) = true)
    (d37 : PySem.W.nsIn K mainGlobals "_law_rule_stands" = some (some (.ref f37)))
    (l37 : K.lookup f37 = some ⟨oc37, od37, .func (PySem.W.fnOf "_law_rule_stands" "_law_rule_stands" (defArgs s__law_rule_stands) (defBody s__law_rule_stands) (defScope s__law_rule_stands) .none kV37 dc37 pm37 an37 cd37 ct37), sl37⟩)
    (c37 : PySem.W.codeIn K cd37 "_law_rule_stands" = true)
    (k37 : PySem.W.keepIn K (.ref f37) = true)
    (d38 : PySem.W.nsIn K mainGlobals "law" = some (some (.ref f38)))
    (l38 : K.lookup f38 = some ⟨oc38, od38, .func (PySem.W.fnOf "law" "law" (defArgs s_law) (defBody s_law) (defScope s_law) .none kV38 dc38 pm38 an38 cd38 ct38), sl38⟩)
    (c38 : PySem.W.codeIn K cd38 "law" = true)
    (k38 : PySem.W.keepIn K (.ref f38) = true)
    (iFIRST_CODE : PySem.W.nsIn K mainGlobals "FIRST_CODE" = some (some (.int 32 tFIRST_CODE)))
    (iLAST_CODE : PySem.W.nsIn K mainGlobals "LAST_CODE" = some (some (.int 126 tLAST_CODE)))
    (iPERCENT_CODE : PySem.W.nsIn K mainGlobals "PERCENT_CODE" = some (some (.int 37 tPERCENT_CODE)))
    (iMOST_LETTERS : PySem.W.nsIn K mainGlobals "MOST_LETTERS" = some (some (.int 8 tMOST_LETTERS)))
    (iMOST_PARTS : PySem.W.nsIn K mainGlobals "MOST_PARTS" = some (some (.int 6 tMOST_PARTS)))
    (iMOST_RULES : PySem.W.nsIn K mainGlobals "MOST_RULES" = some (some (.int 60 tMOST_RULES)))
    (iMOST_SIGNS : PySem.W.nsIn K mainGlobals "MOST_SIGNS" = some (some (.int 60 tMOST_SIGNS)))
    (zisinstance : PySem.W.nsIn K mainGlobals "isinstance" = some none)
    (zint : PySem.W.nsIn K mainGlobals "int" = some none)
    (zbool : PySem.W.nsIn K mainGlobals "bool" = some none)
    (zord : PySem.W.nsIn K mainGlobals "ord" = some none)
    (zstr : PySem.W.nsIn K mainGlobals "str" = some none)
    (zlen : PySem.W.nsIn K mainGlobals "len" = some none)
    (zall : PySem.W.nsIn K mainGlobals "all" = some none)
    (ztuple : PySem.W.nsIn K mainGlobals "tuple" = some none)
    (zlist : PySem.W.nsIn K mainGlobals "list" = some none)
    (zenumerate : PySem.W.nsIn K mainGlobals "enumerate" = some none)
    (zrange : PySem.W.nsIn K mainGlobals "range" = some none)
    (zdict : PySem.W.nsIn K mainGlobals "dict" = some none)
    (zsum : PySem.W.nsIn K mainGlobals "sum" = some none)
    (zreversed : PySem.W.nsIn K mainGlobals "reversed" = some none)
    (zmax : PySem.W.nsIn K mainGlobals "max" = some none)
    (xNoGrammar : PySem.W.excIn K c_NoGrammar [.type "ValueError", .type "Exception", .type "BaseException", .type "object"] "ValueError.__new__" = true)
    (xNoText : PySem.W.excIn K c_NoText [.type "ValueError", .type "Exception", .type "BaseException", .type "object"] "ValueError.__new__" = true)
    (pgGrowth : PySem.W.plainGet K c_Growth Str.empty = true)
    (hdGrowth : PySem.W.hasDictIn K c_Growth = true)
    (poGrowth : PySem.W.plainOver K c_Growth = true)
    (saGrowth : PySem.W.findIn K (.ref c_Growth) "__setattr__" = some (some (.builtin "object.__setattr__")))
    (naGrowth_rules : PySem.W.findIn K (.ref c_Growth) "rules" = some none)
    (naGrowth_heights : PySem.W.findIn K (.ref c_Growth) "heights" = some none)
    (naGrowth_height : PySem.W.findIn K (.ref c_Growth) "height" = some none)
    (naGrowth_fresh : PySem.W.findIn K (.ref c_Growth) "fresh" = some none)
    (naGrowth_higher : PySem.W.findIn K (.ref c_Growth) "higher" = some none)
    (naGrowth_begun : PySem.W.findIn K (.ref c_Growth) "begun" = some none)
    (naGrowth_ends : PySem.W.findIn K (.ref c_Growth) "ends" = some none)
    (mkGrowth : PySem.W.makesIn K c_Growth = true)
    (kcGrowth : PySem.W.keepIn K (.ref c_Growth) = true) :
    ∃ fd : FuncData, (∀ (s : Shared) (v : Value), BindsTo s fd ⟨[v], []⟩ [("_law_script", v)]) ∧ ∀ base : Heap, K.In base → base.Ns mainGlobals mg → FnOk l.prog w K mg base CX0 10 fa fd ["_law_script"] (spLaw K) := by
  have e := hfa.symm.trans (PySem.W.mg_of X G d38)
  cases e
  have m := fun {x : Str} {v : Value} (h : PySem.W.nsIn K mainGlobals x = some (some v)) => PySem.W.mg_of X G h
  have z := fun {x : Str} (h : PySem.W.nsIn K mainGlobals x = some none) => PySem.W.mg_none_of X G h
  have T : Txt K mg ⟨c_NoGrammar, c_NoText, c_Growth, 0⟩ := ⟨z zisinstance, z zint, z zbool, z zord, z zstr, z zlen, z zall, z ztuple, z zlist, z zenumerate, z zrange, z zdict, z zsum, z zreversed, z zmax, ⟨_, m iFIRST_CODE⟩, ⟨_, m iLAST_CODE⟩, ⟨_, m iPERCENT_CODE⟩, ⟨_, m iMOST_LETTERS⟩, ⟨_, m iMOST_PARTS⟩, ⟨_, m iMOST_RULES⟩, ⟨_, m iMOST_SIGNS⟩, m nNoGrammar, m nNoText, m nGrowth, xNoGrammar, xNoText, ⟨pgGrowth, hdGrowth, poGrowth, saGrowth⟩, naGrowth_rules, naGrowth_heights, naGrowth_height, naGrowth_fresh, naGrowth_higher, naGrowth_begun, naGrowth_ends⟩
  have F0 := fun_mk (st := s_is_whole) l0 c0 k0
  have B0 := F0.binds (ps := ["thing"]) fun _ _ _ _ _ _ us hl => match us, hl with | [_], _ => rfl
  have F1 := fun_mk (st := s_stands_in_texts) l1 c1 k1
  have B1 := F1.binds (ps := ["sign"]) fun _ _ _ _ _ _ us hl => match us, hl with | [_], _ => rfl
  have F2 := fun_mk (st := s_is_sign) l2 c2 k2
  have B2 := F2.binds (ps := ["thing"]) fun _ _ _ _ _ _ us hl => match us, hl with | [_], _ => rfl
  have F3 := fun_mk (st := s_is_name) l3 c3 k3
  have B3 := F3.binds (ps := ["thing"]) fun _ _ _ _ _ _ us hl => match us, hl with | [_], _ => rfl
  have F4 := fun_mk (st := s_is_part) l4 c4 k4
  have B4 := F4.binds (ps := ["thing"]) fun _ _ _ _ _ _ us hl => match us, hl with | [_], _ => rfl
  have F5 := fun_mk (st := s_is_worth) l5 c5 k5
  have B5 := F5.binds (ps := ["thing"]) fun _ _ _ _ _ _ us hl => match us, hl with | [_], _ => rfl
  have F6 := fun_mk (st := s_are_parts) l6 c6 k6
  have B6 := F6.binds (ps := ["thing"]) fun _ _ _ _ _ _ us hl => match us, hl with | [_], _ => rfl
  have F7 := fun_mk (st := s_is_rule) l7 c7 k7
  have B7 := F7.binds (ps := ["thing"]) fun _ _ _ _ _ _ us hl => match us, hl with | [_], _ => rfl
  have F8 := fun_mk (st := s_is_grammar) l8 c8 k8
  have B8 := F8.binds (ps := ["thing"]) fun _ _ _ _ _ _ us hl => match us, hl with | [_], _ => rfl
  have F9 := fun_mk (st := s_checked) l9 c9 k9
  have B9 := F9.binds (ps := ["thing"]) fun _ _ _ _ _ _ us hl => match us, hl with | [_], _ => rfl
  have F10 := fun_mk (st := s_Growth___init__) l10 c10 k10
  have B10 := F10.binds (ps := ["self", "rules"]) fun _ _ _ _ _ _ us hl => match us, hl with | [_, _], _ => rfl
  have F11 := fun_mk (st := s_Growth_stand) l11 c11 k11
  have B11 := F11.binds (ps := ["self", "node"]) fun _ _ _ _ _ _ us hl => match us, hl with | [_, _], _ => rfl
  have F12 := fun_mk (st := s_Growth_stand_higher) l12 c12 k12
  have B12 := F12.binds (ps := ["self", "node"]) fun _ _ _ _ _ _ us hl => match us, hl with | [_, _], _ => rfl
  have F13 := fun_mk (st := s_Growth_meet_part) l13 c13 k13
  have B13 := F13.binds (ps := ["self", "node"]) fun _ _ _ _ _ _ us hl => match us, hl with | [_, _], _ => rfl
  have F14 := fun_mk (st := s_Growth_meet_beginning) l14 c14 k14
  have B14 := F14.binds (ps := ["self", "node", "part"]) fun _ _ _ _ _ _ us hl => match us, hl with | [_, _, _], _ => rfl
  have F15 := fun_mk (st := s_Growth_meet) l15 c15 k15
  have B15 := F15.binds (ps := ["self", "node"]) fun _ _ _ _ _ _ us hl => match us, hl with | [_, _], _ => rfl
  have F16 := fun_mk (st := s_Growth_grow) l16 c16 k16
  have B16 := F16.binds (ps := ["self"]) fun _ _ _ _ _ _ us hl => match us, hl with | [_], _ => rfl
  have F17 := fun_mk (st := s_is_text) l17 c17 k17
  have B17 := F17.binds (ps := ["thing"]) fun _ _ _ _ _ _ us hl => match us, hl with | [_], _ => rfl
  have F18 := fun_mk (st := s_checked_text) l18 c18 k18
  have B18 := F18.binds (ps := ["thing"]) fun _ _ _ _ _ _ us hl => match us, hl with | [_], _ => rfl
  have F19 := fun_mk (st := s_standing) l19 c19 k19
  have B19 := F19.binds (ps := ["grammar", "text"]) fun _ _ _ _ _ _ us hl => match us, hl with | [_, _], _ => rfl
  have F20 := fun_mk (st := s__law_cell_at) l20 c20 k20
  have B20 := F20.binds (ps := ["_law_script", "_law_k"]) fun _ _ _ _ _ _ us hl => match us, hl with | [_, _], _ => rfl
  have F21 := fun_mk (st := s__law_mixed) l21 c21 k21
  have B21 := F21.binds (ps := ["_law_script", "_law_k"]) fun _ _ _ _ _ _ us hl => match us, hl with | [_, _], _ => rfl
  have F22 := fun_mk (st := s__law_signs) l22 c22 k22
  have B22 := F22.binds (ps := ["_law_cell"]) fun _ _ _ _ _ _ us hl => match us, hl with | [_], _ => rfl
  have F23 := fun_mk (st := s__law_names) l23 c23 k23
  have B23 := F23.binds (ps := ["_law_cell"]) fun _ _ _ _ _ _ us hl => match us, hl with | [_], _ => rfl
  have F24 := fun_mk (st := s__law_worth) l24 c24 k24
  have B24 := F24.binds (ps := ["_law_cell"]) fun _ _ _ _ _ _ us hl => match us, hl with | [_], _ => rfl
  have F25 := fun_mk (st := s__law_parts) l25 c25 k25
  have B25 := F25.binds (ps := ["_law_cell", "_law_menu", "_law_most"]) fun _ _ _ _ _ _ us hl => match us, hl with | [_, _, _], _ => rfl
  have F26 := fun_mk (st := s__law_grammar) l26 c26 k26
  have B26 := F26.binds (ps := ["_law_script"]) fun _ _ _ _ _ _ us hl => match us, hl with | [_], _ => rfl
  have F27 := fun_mk (st := s__law_whole) l27 c27 k27
  have B27 := F27.binds (ps := ["_law_found"]) fun _ _ _ _ _ _ us hl => match us, hl with | [_], _ => rfl
  have F28 := fun_mk (st := s__law_node) l28 c28 k28
  have B28 := F28.binds (ps := ["_law_node_here"]) fun _ _ _ _ _ _ us hl => match us, hl with | [_], _ => rfl
  have F29 := fun_mk (st := s__law_heights) l29 c29 k29
  have B29 := F29.binds (ps := ["_law_found"]) fun _ _ _ _ _ _ us hl => match us, hl with | [_], _ => rfl
  have F30 := fun_mk (st := s__law_shorts) l30 c30 k30
  have B30 := F30.binds (ps := ["_law_grammar_here"]) fun _ _ _ _ _ _ us hl => match us, hl with | [_], _ => rfl
  have F31 := fun_mk (st := s__law_need) l31 c31 k31
  have B31 := F31.binds (ps := ["_law_parts_here"]) fun _ _ _ _ _ _ us hl => match us, hl with | [_], _ => rfl
  have F32 := fun_mk (st := s__law_open) l32 c32 k32
  have B32 := F32.binds (ps := ["_law_grammar_here", "_law_shorts_here", "_law_name", "_law_most"]) fun _ _ _ _ _ _ us hl => match us, hl with | [_, _, _, _], _ => rfl
  have F33 := fun_mk (st := s__law_row) l33 c33 k33
  have B33 := F33.binds (ps := ["_law_grammar_here", "_law_cells", "_law_room"]) fun _ _ _ _ _ _ us hl => match us, hl with | [_, _, _], _ => rfl
  have F34 := fun_mk (st := s__law_read) l34 c34 k34
  have B34 := F34.binds (ps := ["_law_grammar_here", "_law_row_here"]) fun _ _ _ _ _ _ us hl => match us, hl with | [_, _], _ => rfl
  have F35 := fun_mk (st := s__law_tree) l35 c35 k35
  have B35 := F35.binds (ps := ["_law_rules", "_law_row_here"]) fun _ _ _ _ _ _ us hl => match us, hl with | [_, _], _ => rfl
  have F36 := fun_mk (st := s__law_low) l36 c36 k36
  have B36 := F36.binds (ps := ["_law_found", "_law_node_here", "_law_low_here", "_law_high"]) fun _ _ _ _ _ _ us hl => match us, hl with | [_, _, _, _], _ => rfl
  have F37 := fun_mk (st := s__law_rule_stands) l37 c37 k37
  have B37 := F37.binds (ps := ["_law_rules", "_law_found", "_law_row_here", "_law_tree_here", "_law_begins", "_law_k"]) fun _ _ _ _ _ _ us hl => match us, hl with | [_, _, _, _, _, _], _ => rfl
  have F38 := fun_mk (st := s_law) l38 c38 k38
  have U_is_whole : Used l.prog w K mg CX0 1 "is_whole" ["thing"] (spIs isWholeD) := ⟨⟨f0, _, fun base => ok_is_whole F0 T, m d0, k0, B0⟩⟩
  have U_stands_in_texts : Used l.prog w K mg CX0 1 "stands_in_texts" ["sign"] (spStands) := ⟨⟨f1, _, fun base => ok_stands_in_texts F1 T, m d1, k1, B1⟩⟩
  have U_is_sign : Used l.prog w K mg CX0 2 "is_sign" ["thing"] (spIs isSignD) := ⟨⟨f2, _, fun base => ok_is_sign F2 T U_stands_in_texts, m d2, k2, B2⟩⟩
  have U_is_name : Used l.prog w K mg CX0 1 "is_name" ["thing"] (spIs isNameD) := ⟨⟨f3, _, fun base => ok_is_name F3 T, m d3, k3, B3⟩⟩
  have U_is_part : Used l.prog w K mg CX0 3 "is_part" ["thing"] (spIs isPartD) := ⟨⟨f4, _, fun base => ok_is_part F4 T U_is_sign U_is_name, m d4, k4, B4⟩⟩
  have U_is_worth : Used l.prog w K mg CX0 2 "is_worth" ["thing"] (spIs isWorthD) := ⟨⟨f5, _, fun base => ok_is_worth F5 T U_is_whole, m d5, k5, B5⟩⟩
  have U_are_parts : Used l.prog w K mg CX0 4 "are_parts" ["thing"] (spIs arePartsD) := ⟨⟨f6, _, fun base => ok_are_parts F6 T U_is_part, m d6, k6, B6⟩⟩
  have U_is_rule : Used l.prog w K mg CX0 5 "is_rule" ["thing"] (spIs isRuleD) := ⟨⟨f7, _, fun base => ok_is_rule F7 T U_is_name U_are_parts U_is_worth, m d7, k7, B7⟩⟩
  have U_is_grammar : Used l.prog w K mg CX0 6 "is_grammar" ["thing"] (spIs isGramD) := ⟨⟨f8, _, fun base => ok_is_grammar F8 T U_is_rule, m d8, k8, B8⟩⟩
  have U_checked : Used l.prog w K mg (CXo l.prog w) 7 "checked" ["thing"] (spChecked c_NoGrammar) := ⟨⟨f9, _, fun base => ok_checked F9 T U_is_grammar, m d9, k9, B9⟩⟩
  have U_Growth___init__ : UsedI l.prog w K mg CX0 1 c_Growth ["self", "rules"] (spGInit c_Growth) := ⟨⟨f10, _, fun base => ok_Growth___init__ F10 T, ⟨mkGrowth, a10, j10, kcGrowth⟩, B10⟩⟩
  have U_Growth_stand : UsedM l.prog w K mg CX0 1 c_Growth "stand" ["self", "node"] (spStand c_Growth) := ⟨⟨f11, _, fun base => ok_Growth_stand F11 T, ⟨a11, j11, k11⟩, B11⟩⟩
  have U_Growth_stand_higher : UsedM l.prog w K mg CX0 1 c_Growth "stand_higher" ["self", "node"] (spStandUp c_Growth) := ⟨⟨f12, _, fun base => ok_Growth_stand_higher F12 T, ⟨a12, j12, k12⟩, B12⟩⟩
  have U_Growth_meet_part : UsedM l.prog w K mg CX0 2 c_Growth "meet_part" ["self", "node"] (spMeetP c_Growth) := ⟨⟨f13, _, fun base => ok_Growth_meet_part F13 T U_Growth_stand, ⟨a13, j13, k13⟩, B13⟩⟩
  have U_Growth_meet_beginning : UsedM l.prog w K mg CX0 2 c_Growth "meet_beginning" ["self", "node", "part"] (spMeetB c_Growth) := ⟨⟨f14, _, fun base => ok_Growth_meet_beginning F14 T U_Growth_stand, ⟨a14, j14, k14⟩, B14⟩⟩
  have U_Growth_meet : UsedM l.prog w K mg CX0 3 c_Growth "meet" ["self", "node"] (spMeet c_Growth) := ⟨⟨f15, _, fun base => ok_Growth_meet F15 T U_Growth_meet_part U_Growth_meet_beginning U_Growth_stand_higher, ⟨a15, j15, k15⟩, B15⟩⟩
  have U_Growth_grow : UsedM l.prog w K mg CX0 4 c_Growth "grow" ["self"] (spGrow c_Growth) := ⟨⟨f16, _, fun base => ok_Growth_grow F16 T U_Growth_meet, ⟨a16, j16, k16⟩, B16⟩⟩
  have U_is_text : Used l.prog w K mg CX0 2 "is_text" ["thing"] (spIs isTextD) := ⟨⟨f17, _, fun base => ok_is_text F17 T U_stands_in_texts, m d17, k17, B17⟩⟩
  have U_checked_text : Used l.prog w K mg (CXo l.prog w) 3 "checked_text" ["thing"] (spCheckedT c_NoText) := ⟨⟨f18, _, fun base => ok_checked_text F18 T U_is_text, m d18, k18, B18⟩⟩
  have U_standing : Used l.prog w K mg (CXo l.prog w) 8 "standing" ["grammar", "text"] (spStanding c_NoGrammar c_NoText) := ⟨⟨f19, _, fun base => ok_standing F19 T U_checked U_checked_text U_Growth___init__ U_Growth_stand U_Growth_grow, m d19, k19, B19⟩⟩
  have U__law_cell_at : Used l.prog w K mg CX0 1 "_law_cell_at" ["_law_script", "_law_k"] (spCell K) := ⟨⟨f20, _, fun base => ok__law_cell_at F20 T, m d20, k20, B20⟩⟩
  have U__law_mixed : Used l.prog w K mg CX0 2 "_law_mixed" ["_law_script", "_law_k"] (spMixed K) := ⟨⟨f21, _, fun base => ok__law_mixed F21 T U__law_cell_at, m d21, k21, B21⟩⟩
  have U__law_signs : Used l.prog w K mg CX0 1 "_law_signs" ["_law_cell"] (spSigns) := ⟨⟨f22, _, fun base => ok__law_signs F22 T, m d22, k22, B22⟩⟩
  have U__law_names : Used l.prog w K mg CX0 1 "_law_names" ["_law_cell"] (spNames) := ⟨⟨f23, _, fun base => ok__law_names F23 T, m d23, k23, B23⟩⟩
  have U__law_worth : Used l.prog w K mg CX0 1 "_law_worth" ["_law_cell"] (spWorthL) := ⟨⟨f24, _, fun base => ok__law_worth F24 T, m d24, k24, B24⟩⟩
  have U__law_parts : Used l.prog w K mg CX0 1 "_law_parts" ["_law_cell", "_law_menu", "_law_most"] (spParts) := ⟨⟨f25, _, fun base => ok__law_parts F25 T, m d25, k25, B25⟩⟩
  have U__law_grammar : Used l.prog w K mg CX0 3 "_law_grammar" ["_law_script"] (spGram K) := ⟨⟨f26, _, fun base => ok__law_grammar F26 T U__law_names U__law_mixed U__law_parts U__law_signs U__law_worth U__law_cell_at, m d26, k26, B26⟩⟩
  have U__law_whole : Used l.prog w K mg CX0 1 "_law_whole" ["_law_found"] (spWholeK) := ⟨⟨f27, _, fun base => ok__law_whole F27 T, m d27, k27, B27⟩⟩
  have U__law_node : Used l.prog w K mg CX0 2 "_law_node" ["_law_node_here"] (spNodeL) := ⟨⟨f28, _, fun base => ok__law_node F28 T U__law_whole, m d28, k28, B28⟩⟩
  have U__law_heights : Used l.prog w K mg CX0 3 "_law_heights" ["_law_found"] (spHeights) := ⟨⟨f29, _, fun base => ok__law_heights F29 T U__law_node U__law_whole, m d29, k29, B29⟩⟩
  have U__law_shorts : Used l.prog w K mg CX0 1 "_law_shorts" ["_law_grammar_here"] (spShorts) := ⟨⟨f30, _, fun base => ok__law_shorts F30 T, m d30, k30, B30⟩⟩
  have U__law_need : Used l.prog w K mg CX0 1 "_law_need" ["_law_parts_here"] (spNeed) := ⟨⟨f31, _, fun base => ok__law_need F31 T, m d31, k31, B31⟩⟩
  have U__law_open : Used l.prog w K mg CX0 2 "_law_open" ["_law_grammar_here", "_law_shorts_here", "_law_name", "_law_most"] (spOpenM) := ⟨⟨f32, _, fun base => ok__law_open F32 T U__law_need, m d32, k32, B32⟩⟩
  have U__law_row : Used l.prog w K mg CX0 3 "_law_row" ["_law_grammar_here", "_law_cells", "_law_room"] (spRowM K) := ⟨⟨f33, _, fun base => ok__law_row F33 T U__law_shorts U__law_open U__law_need, m d33, k33, B33⟩⟩
  have U__law_read : Used l.prog w K mg CX0 1 "_law_read" ["_law_grammar_here", "_law_row_here"] (spRead) := ⟨⟨f34, _, fun base => ok__law_read F34 T, m d34, k34, B34⟩⟩
  have U__law_tree : Used l.prog w K mg CX0 1 "_law_tree" ["_law_rules", "_law_row_here"] (spTree) := ⟨⟨f35, _, fun base => ok__law_tree F35 T, m d35, k35, B35⟩⟩
  have U__law_low : Used l.prog w K mg CX0 1 "_law_low" ["_law_found", "_law_node_here", "_law_low_here", "_law_high"] (spLow) := ⟨⟨f36, _, fun base => ok__law_low F36 T, m d36, k36, B36⟩⟩
  have U__law_rule_stands : Used l.prog w K mg CX0 2 "_law_rule_stands" ["_law_rules", "_law_found", "_law_row_here", "_law_tree_here", "_law_begins", "_law_k"] (spRuleSt) := ⟨⟨f37, _, fun base => ok__law_rule_stands F37 T U__law_low, m d37, k37, B37⟩⟩
  exact ⟨PySem.W.fnOf "law" "law" (defArgs s_law) (defBody s_law) (defScope s_law) .none kV38 dc38 pm38 an38 cd38 ct38, fun s v => .of_eq rfl, fun base _ _ => ok_law F38 T U__law_grammar U__law_row U__law_read U_standing U__law_tree U__law_heights U__law_mixed U__law_rule_stands⟩
theorem walk {l : PySem.W.OpenLaw} {q : Program} {loose : List Str} {XP : (Str → Option Value) → Heap → Prop} {YP : World → Heap → Prop} {d : DefRec} {K : Params → PySem.W.Frag} (hn : l.most = some 63) (hdf : d.params.defaults = [])
    (hY : ∀ (w : World) (h : Heap), YP w h → (K w.params).In h)
    (F : ∀ (w : World) (mg : Str → Option Value) (fa : Addr) (h : Heap), (K w.params).In h → h.Ns mainGlobals mg → mg d.name = some (.ref fa) →
      ∃ fd : FuncData, (∀ (s : Shared) (u : Value), BindsTo s fd ⟨[u], []⟩ [("_law_script", u)]) ∧ ∀ base : Heap, (K w.params).In base → base.Ns mainGlobals mg → FnOk l.prog w (K w.params) mg base CX0 10 fa fd ["_law_script"] (spLaw (K w.params))) :
    PySem.W.WalkO q loose XP YP l.row.toRowW d [] (fun f vs => PySem.call f vs) :=
  L2.walk_of (n := 63) (k := 10) (x := "_law_script") (CX := fun _ => CX0) (sp := fun w => spLaw (K w.params)) hn (by decide) hdf ⟨rfl, by decide, by decide⟩ hY F (fun _ _ a ns hl hO hS => law_start hl hO hS) fun _ _ _ _ _ z => z
end FR
open PySem PySem.W PyProof.Rows
def PySem.W.Fast.tw17879214168883444410 : Nat := 0
def PySem.W.Fast.tw1514240897350496730 : Nat := 0
def PySem.W.Fast.tw8207076235409498433 : Nat := 0
def PySem.W.Fast.tw7985037189306063999 : Nat := 0
def PySem.W.Fast.tw16668880405441191940 : Nat := 0
def PySem.W.Fast.tw15602609040891002649 : Nat := 0
def PySem.W.Fast.tw4496224529348513420 : Nat := 0
def PySem.W.Fast.tw5061663272344148890 : Nat := 0
def PySem.W.Fast.tw14173091682489079382 : Nat := 0
def PySem.W.Fast.tw842788437105533749 : Nat := 0
def PySem.W.Fast.tw9872821886910291395 : Nat := 0
def PySem.W.Fast.tw17240529770060510577 : Nat := 0
def PySem.W.Fast.tw9779327056603332269 : Nat := 0
def PySem.W.Fast.tw7909927612387044 : Nat := 0
def PySem.W.Fast.tw7783676023831339924 : Nat := 0
def PySem.W.Fast.tw16872169567294863987 : Nat := 0
def PySem.W.Fast.tw17676520539821421614 : Nat := 0
set_option maxRecDepth 100000 in
set_option maxHeartbeats 0 in
theorem PySem.Challenge.cw_forestread_k21_spans_stand_holds : PySem.Challenge.rw_forestread_k21_spans_stand.Holds := by
  w_on; o_law; k_head; (case hw => w_witness2)
  k_fill
  refine FR.walk (l := PySem.Challenge.rw_forestread_k21_spans_stand) rfl rfl (fun w h Y => PySem.W.kIn_of Y) ?F
  case F =>
    intro w mg fa h KX G hmg
    refine' FR.all_mk KX G hmg ?nNoGrammar ?nNoText ?nGrowth ?d0 ?l0 ?c0 ?k0 ?d1 ?l1 ?c1 ?k1 ?d2 ?l2 ?c2 ?k2 ?d3 ?l3 ?c3 ?k3 ?d4 ?l4 ?c4 ?k4 ?d5 ?l5 ?c5 ?k5 ?d6 ?l6 ?c6 ?k6 ?d7 ?l7 ?c7 ?k7 ?d8 ?l8 ?c8 ?k8 ?d9 ?l9 ?c9 ?k9 ?a10 ?j10 ?l10 ?c10 ?k10 ?a11 ?j11 ?l11 ?c11 ?k11 ?a12 ?j12 ?l12 ?c12 ?k12 ?a13 ?j13 ?l13 ?c13 ?k13 ?a14 ?j14 ?l14 ?c14 ?k14 ?a15 ?j15 ?l15 ?c15 ?k15 ?a16 ?j16 ?l16 ?c16 ?k16 ?d17 ?l17 ?c17 ?k17 ?d18 ?l18 ?c18 ?k18 ?d19 ?l19 ?c19 ?k19 ?d20 ?l20 ?c20 ?k20 ?d21 ?l21 ?c21 ?k21 ?d22 ?l22 ?c22 ?k22 ?d23 ?l23 ?c23 ?k23 ?d24 ?l24 ?c24 ?k24 ?d25 ?l25 ?c25 ?k25 ?d26 ?l26 ?c26 ?k26 ?d27 ?l27 ?c27 ?k27 ?d28 ?l28 ?c28 ?k28 ?d29 ?l29 ?c29 ?k29 ?d30 ?l30 ?c30 ?k30 ?d31 ?l31 ?c31 ?k31 ?d32 ?l32 ?c32 ?k32 ?d33 ?l33 ?c33 ?k33 ?d34 ?l34 ?c34 ?k34 ?d35 ?l35 ?c35 ?k35 ?d36 ?l36 ?c36 ?k36 ?d37 ?l37 ?c37 ?k37 ?d38 ?l38 ?c38 ?k38 ?iFIRST_CODE ?iLAST_CODE ?iPERCENT_CODE ?iMOST_LETTERS ?iMOST_PARTS ?iMOST_RULES ?iMOST_SIGNS ?zisinstance ?zint ?zbool ?zord ?zstr ?zlen ?zall ?ztuple ?zlist ?zenumerate ?zrange ?zdict ?zsum ?zreversed ?zmax ?xNoGrammar ?xNoText ?pgGrowth ?hdGrowth ?poGrowth ?saGrowth ?naGrowth_rules ?naGrowth_heights ?naGrowth_height ?naGrowth_fresh ?naGrowth_higher ?naGrowth_begun ?naGrowth_ends ?mkGrowth ?kcGrowth
    (case nNoGrammar => k_is)
    (case nNoText => k_is)
    (case nGrowth => k_is)
    (case d0 => k_is)
    (case l0 => k_is)
    (case c0 => k_is)
    (case k0 => k_is)
    (case d1 => k_is)
    (case l1 => k_is)
    (case c1 => k_is)
    (case k1 => k_is)
    (case d2 => k_is)
    (case l2 => k_is)
    (case c2 => k_is)
    (case k2 => k_is)
    (case d3 => k_is)
    (case l3 => k_is)
    (case c3 => k_is)
    (case k3 => k_is)
    (case d4 => k_is)
    (case l4 => k_is)
    (case c4 => k_is)
    (case k4 => k_is)
    (case d5 => k_is)
    (case l5 => k_is)
    (case c5 => k_is)
    (case k5 => k_is)
    (case d6 => k_is)
    (case l6 => k_is)
    (case c6 => k_is)
    (case k6 => k_is)
    (case d7 => k_is)
    (case l7 => k_is)
    (case c7 => k_is)
    (case k7 => k_is)
    (case d8 => k_is)
    (case l8 => k_is)
    (case c8 => k_is)
    (case k8 => k_is)
    (case d9 => k_is)
    (case l9 => k_is)
    (case c9 => k_is)
    (case k9 => k_is)
    (case a10 => k_is)
    (case j10 => k_is)
    (case l10 => k_is)
    (case c10 => k_is)
    (case k10 => k_is)
    (case a11 => k_is)
    (case j11 => k_is)
    (case l11 => k_is)
    (case c11 => k_is)
    (case k11 => k_is)
    (case a12 => k_is)
    (case j12 => k_is)
    (case l12 => k_is)
    (case c12 => k_is)
    (case k12 => k_is)
    (case a13 => k_is)
    (case j13 => k_is)
    (case l13 => k_is)
    (case c13 => k_is)
    (case k13 => k_is)
    (case a14 => k_is)
    (case j14 => k_is)
    (case l14 => k_is)
    (case c14 => k_is)
    (case k14 => k_is)
    (case a15 => k_is)
    (case j15 => k_is)
    (case l15 => k_is)
    (case c15 => k_is)
    (case k15 => k_is)
    (case a16 => k_is)
    (case j16 => k_is)
    (case l16 => k_is)
    (case c16 => k_is)
    (case k16 => k_is)
    (case d17 => k_is)
    (case l17 => k_is)
    (case c17 => k_is)
    (case k17 => k_is)
    (case d18 => k_is)
    (case l18 => k_is)
    (case c18 => k_is)
    (case k18 => k_is)
    (case d19 => k_is)
    (case l19 => k_is)
    (case c19 => k_is)
    (case k19 => k_is)
    (case d20 => k_is)
    (case l20 => k_is)
    (case c20 => k_is)
    (case k20 => k_is)
    (case d21 => k_is)
    (case l21 => k_is)
    (case c21 => k_is)
    (case k21 => k_is)
    (case d22 => k_is)
    (case l22 => k_is)
    (case c22 => k_is)
    (case k22 => k_is)
    (case d23 => k_is)
    (case l23 => k_is)
    (case c23 => k_is)
    (case k23 => k_is)
    (case d24 => k_is)
    (case l24 => k_is)
    (case c24 => k_is)
    (case k24 => k_is)
    (case d25 => k_is)
    (case l25 => k_is)
    (case c25 => k_is)
    (case k25 => k_is)
    (case d26 => k_is)
    (case l26 => k_is)
    (case c26 => k_is)
    (case k26 => k_is)
    (case d27 => k_is)
    (case l27 => k_is)
    (case c27 => k_is)
    (case k27 => k_is)
    (case d28 => k_is)
    (case l28 => k_is)
    (case c28 => k_is)
    (case k28 => k_is)
    (case d29 => k_is)
    (case l29 => k_is)
    (case c29 => k_is)
    (case k29 => k_is)
    (case d30 => k_is)
    (case l30 => k_is)
    (case c30 => k_is)
    (case k30 => k_is)
    (case d31 => k_is)
    (case l31 => k_is)
    (case c31 => k_is)
    (case k31 => k_is)
    (case d32 => k_is)
    (case l32 => k_is)
    (case c32 => k_is)
    (case k32 => k_is)
    (case d33 => k_is)
    (case l33 => k_is)
    (case c33 => k_is)
    (case k33 => k_is)
    (case d34 => k_is)
    (case l34 => k_is)
    (case c34 => k_is)
    (case k34 => k_is)
    (case d35 => k_is)
    (case l35 => k_is)
    (case c35 => k_is)
    (case k35 => k_is)
    (case d36 => k_is)
    (case l36 => k_is)
    (case c36 => k_is)
    (case k36 => k_is)
    (case d37 => k_is)
    (case l37 => k_is)
    (case c37 => k_is)
    (case k37 => k_is)
    (case d38 => k_is)
    (case l38 => k_is)
    (case c38 => k_is)
    (case k38 => k_is)
    (case iFIRST_CODE => k_is)
    (case iLAST_CODE => k_is)
    (case iPERCENT_CODE => k_is)
    (case iMOST_LETTERS => k_is)
    (case iMOST_PARTS => k_is)
    (case iMOST_RULES => k_is)
    (case iMOST_SIGNS => k_is)
    (case zisinstance => k_is)
    (case zint => k_is)
    (case zbool => k_is)
    (case zord => k_is)
    (case zstr => k_is)
    (case zlen => k_is)
    (case zall => k_is)
    (case ztuple => k_is)
    (case zlist => k_is)
    (case zenumerate => k_is)
    (case zrange => k_is)
    (case zdict => k_is)
    (case zsum => k_is)
    (case zreversed => k_is)
    (case zmax => k_is)
    (case xNoGrammar => k_exc)
    (case xNoText => k_exc)
    (case pgGrowth => k_is)
    (case hdGrowth => k_is)
    (case poGrowth => k_is)
    (case saGrowth => k_is)
    (case naGrowth_rules => k_is)
    (case naGrowth_heights => k_is)
    (case naGrowth_height => k_is)
    (case naGrowth_fresh => k_is)
    (case naGrowth_higher => k_is)
    (case naGrowth_begun => k_is)
    (case naGrowth_ends => k_is)
    (case mkGrowth => k_is)
    (case kcGrowth => k_is)
