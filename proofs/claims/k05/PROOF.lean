import PyProof.Rows.All
import Wide.All
import OpenK.AllK
import Wide.FinOn
import Lean
import PyProof.EqAt
import PyProof.EqKinds
import PyProof.TupleCall
import PySem.Challenge.RW_forestread_k05_rows_refused
set_option Elab.async false
set_option linter.all false
set_option maxRecDepth 100000

namespace L2
open PySem PySem.Spec PyProof.Rows


abbrev Key := Sum Int Str
def keyIs : Key → Value → Bool
  | .inl k, v => Value.isInt k v
  | .inr x, v => Value.isStrOf x v
def keyH (w : World) : Key → Int
  | .inl k => hashInt k
  | .inr x => hashStr w x
theorem keyIs_shape : ∀ {k : Key} {v : Value}, keyIs k v = true → (∃ i t, k = Sum.inl i ∧ v = Value.int i t) ∨ (∃ x t, k = Sum.inr x ∧ v = Value.str x t)
  | .inl i, v, h => by
    obtain ⟨t, e⟩ := Value.isInt_shape (k := i) (v := v) h
    exact .inl ⟨i, t, rfl, e⟩
  | .inr x, v, h => by
    obtain ⟨t, e⟩ := Value.isStrOf_shape (x := x) (v := v) h
    exact .inr ⟨x, t, rfl, e⟩
theorem keyIs_int (i : Int) (t : Tok) : keyIs (.inl i) (.int i t) = true := by simp [keyIs, Value.isInt]
theorem keyIs_str (x : Str) (t : Tok) : keyIs (.inr x) (.str x t) = true := by simp [keyIs, Value.isStrOf]
theorem key_ll (a b : Int) : decide ((Sum.inl a : Key) = Sum.inl b) = (a == b) := by
  by_cases e : a = b
  · subst e; simp
  · have h : ¬ (Sum.inl a : Key) = Sum.inl b := fun q => e (Sum.inl.inj q)
    rw [decide_eq_false h]
    exact (beq_eq_false_iff_ne.mpr e).symm
theorem key_rr (a b : Str) : decide ((Sum.inr a : Key) = Sum.inr b) = decide (a = b) := by
  by_cases e : a = b
  · subst e; simp
  · have h : ¬ (Sum.inr a : Key) = Sum.inr b := fun q => e (Sum.inr.inj q)
    rw [decide_eq_false h, decide_eq_false e]
theorem key_lr (a : Int) (b : Str) : decide ((Sum.inl a : Key) = Sum.inr b) = false := decide_eq_false (fun q => nomatch q)
theorem key_rl (a : Str) (b : Int) : decide ((Sum.inr a : Key) = Sum.inl b) = false := decide_eq_false (fun q => nomatch q)

def mixKind (prog : Program) (w : World) : PySem.KeyKind prog w Key where
  is := keyIs
  hash := keyH w
  inj := fun v a b ha hb => by
    rcases keyIs_shape ha with ⟨i, t, rfl, rfl⟩ | ⟨x, t, rfl, rfl⟩
    · rcases keyIs_shape hb with ⟨j, u, rfl, e⟩ | ⟨y, u, rfl, e⟩
      · injection e with e1 _; rw [e1]
      · exact nomatch e
    · rcases keyIs_shape hb with ⟨j, u, rfl, e⟩ | ⟨y, u, rfl, e⟩
      · exact nomatch e
      · injection e with e1 _; rw [e1]
  byValue := fun k v h => by
    rcases keyIs_shape h with ⟨i, t, rfl, rfl⟩ | ⟨x, t, rfl, rfl⟩ <;> rfl
  pyHash := fun hv h => by
    rcases keyIs_shape hv with ⟨i, t, rfl, rfl⟩ | ⟨x, t, rfl, rfl⟩
    · exact wpAny_pyHash_int h
    · exact wpAny_pyHash_str h
  eqBool := fun hu hv h => by
    rcases keyIs_shape hu with ⟨i, t, rfl, rfl⟩ | ⟨x, t, rfl, rfl⟩
    · rcases keyIs_shape hv with ⟨j, u, rfl, rfl⟩ | ⟨y, u, rfl, rfl⟩
      · rw [key_ll] at h; exact wpAny_eqBool_int h
      · rw [key_lr] at h; exact SeqAt.EqAt.int_str i t y u _ _ _ _ h
    · rcases keyIs_shape hv with ⟨j, u, rfl, rfl⟩ | ⟨y, u, rfl, rfl⟩
      · rw [key_rl] at h; exact SeqAt.EqAt.str_int x t j u _ _ _ _ h
      · rw [key_rr] at h; exact wpAny_eqBool_str h
  «strs» := fun k x t v h => by
    rcases keyIs_shape h with ⟨i, u, rfl, e⟩ | ⟨y, u, rfl, e⟩
    · exact nomatch e
    · injection e with e1 _
      subst e1
      cases v <;> rfl

theorem mixKind_int (prog : Program) (w : World) (i : Int) (t : Tok) : (mixKind prog w).is (.inl i) (.int i t) = true := keyIs_int i t
theorem mixKind_str (prog : Program) (w : World) (x : Str) (t : Tok) : (mixKind prog w).is (.inr x) (.str x t) = true := keyIs_str x t
end L2

namespace L2
open PySem PySem.Spec PyProof.Rows


inductive V where
  | non | bl (b : Bool) | int (i : Int) | str (x : Str) | byt (b : Array UInt8) | flt (b : UInt64) | ref (a : Addr) | ty (n : String)
  deriving DecidableEq

def RelV : V → Value → Prop
  | .non, u => u = Value.none
  | .bl b, u => u = Value.bool b
  | .int i, u => ∃ t, u = Value.int i t
  | .str x, u => ∃ t, u = Value.str x t
  | .byt b, u => ∃ t, u = Value.bytes b t
  | .flt b, u => ∃ t, u = Value.float b t
  | .ref a, u => u = Value.ref a
  | .ty n, u => u = Value.type n

abbrev Vals : List V → List Value → Prop := Paired RelV
theorem Vals.length {xs : List V} {us : List Value} (r : Vals xs us) : xs.length = us.length := Paired.length r
theorem Vals.get : ∀ {xs : List V} {us : List Value} {i : Nat} {x : V}, Vals xs us → xs[i]? = some x → ∃ u, us[i]? = some u ∧ RelV x u
  | _, _, _, _, .nil, e => by simp at e
  | _, _, 0, _, .cons r _, e => by simp at e; subst e; exact ⟨_, rfl, r⟩
  | _, _, i + 1, x, .cons _ t, e => by
    obtain ⟨u, h1, h2⟩ := Vals.get (i := i) (x := x) t (by simpa using e)
    exact ⟨u, by simpa using h1, h2⟩
theorem Vals.set {x : V} {u : Value} (r : RelV x u) : ∀ {xs : List V} {us : List Value} (i : Nat), Vals xs us → Vals (xs.set i x) (us.set i u)
  | _, _, _, .nil => .nil
  | _, _, 0, .cons _ t => .cons r t
  | _, _, i + 1, .cons q t => .cons q (Vals.set r i t)
theorem Vals.append : ∀ {xs ys : List V} {us ws : List Value}, Vals xs us → Vals ys ws → Vals (xs ++ ys) (us ++ ws)
  | _, _, _, _, .nil, s => s
  | _, _, _, _, .cons r t, s => .cons r (Vals.append t s)
theorem Vals.take : ∀ {xs : List V} {us : List Value} (n : Nat), Vals xs us → Vals (xs.take n) (us.take n)
  | _, _, 0, _ => .nil
  | _, _, _ + 1, .nil => .nil
  | _, _, n + 1, .cons r t => .cons r (Vals.take n t)
theorem Vals.drop : ∀ {xs : List V} {us : List Value} (n : Nat), Vals xs us → Vals (xs.drop n) (us.drop n)
  | _, _, 0, r => r
  | _, _, _ + 1, .nil => .nil
  | _, _, n + 1, .cons _ t => Vals.drop n t
theorem Vals.none_of : ∀ {xs : List V} {us : List Value} {i : Nat}, Vals xs us → xs[i]? = none → us[i]? = none := fun {xs us i} r e => by
  have h1 := r.length
  have h2 : xs.length ≤ i := List.getElem?_eq_none_iff.mp e
  exact List.getElem?_eq_none_iff.mpr (by omega)

def RelO : Option V → Option Value → Prop
  | some v, some u => RelV v u
  | none, none => True
  | _, _ => False
def KV {κ : Type} : List (κ × V) → List (κ × Value) → Prop := Paired fun (p : κ × V) (q : κ × Value) => p.1 = q.1 ∧ RelV p.2 q.2


def kV : Key → V
  | .inl i => .int i
  | .inr x => .str x


inductive HO where
  
  | lst (xs : List V)
  
  | tup (xs : List V)
  
  | dK (kvs : List (Key × V)) | dT (kvs : List (List Key × V))
  
  | set (S : Int → Bool) (n : Nat)
  
  | ins (C dx : Addr) (fs : List (Str × V))
  
  | own (x : Addr)
  
  | xd (fs : List (Str × V))
  
  | met (f x : Addr)
  
  | rng (lo hi : Int)
  
  | frz (o : Obj) (u : HO)
  
  | tbl (ps : Array Value)
  
  | ext (φ : Heap → Prop)

abbrev Hp := Addr → Option HO
def upd (H : Hp) (a : Addr) (o : HO) : Hp := fun b => if b = a then some o else H b
theorem upd_same {H : Hp} {a : Addr} {o : HO} : upd H a o a = some o := by unfold upd; rw [if_pos rfl]
theorem upd_ne {H : Hp} {a b : Addr} {o : HO} (h : b ≠ a) : upd H a o b = H b := by unfold upd; rw [if_neg h]
theorem upd_upd {H : Hp} {a : Addr} {o u : HO} : upd (upd H a o) a u = upd H a u := by
  funext b; unfold upd; split <;> rfl

theorem ne_of {H : Hp} {a b : Addr} {o u : HO} (h : H a = some o) (h' : H b = some u) (d : o ≠ u) : a ≠ b := by
  intro e; subst e; rw [h] at h'; exact d (Option.some.inj h')
theorem ne_of_none {H : Hp} {a b : Addr} {o : HO} (h : H a = some o) (h' : H b = none) : a ≠ b := by
  intro e; subst e; rw [h] at h'; cases h'

section
variable (P : Program) (w : World)
def ObjOk (H : Hp) (h : Heap) (a : Addr) : HO → Prop
  | .lst xs => xs.length ≤ sizeLine ∧ ∃ (its : List Value) (n : Nat), Vals xs its ∧ h.get? a = some { cls := .type "list", data := .seq its.toArray n }
  | .tup xs => xs.length ≤ sizeLine ∧ ∃ its : List Value, Vals xs its ∧ IsTup h a its.toArray
  | .dK kvs => kvs.length ≤ sizeLine ∧ (a == sysModules) = false ∧ ∃ vs, KV kvs vs ∧ h.DictOf (mixKind P w) a vs
  | .dT kvs => kvs.length ≤ sizeLine ∧ (a == sysModules) = false ∧ ∃ xs : List (List Key × Addr × Value),
      Paired (fun (p : List Key × V) (q : List Key × Addr × Value) => p.1 = q.1 ∧ H q.2.1 = some (.tup (p.1.map kV)) ∧ RelV p.2 q.2.2) kvs xs ∧
      ∃ o es ep, h.get? a = some o ∧ o.ExactDict ∧ o.data = .dict es ep ∧ es.toList = xs.map (entryOfKey (tupleKind (mixKind P w))) ∧ (xs.map (·.1)).Nodup
  | .set S n => h.SetOf (intKind P w) a S n
  | .ins C dx fs => H dx = some (.own a) ∧ fs.length ≤ 1000 ∧ dx ≠ a ∧ h.get? a = some (PySem.W.instObj C dx) ∧
      ∃ mA, h.Ns1 dx mA ∧ (∀ f, RelO (fs.lookup f) (mA f)) ∧ PySem.Within mA (fs.map (·.1))
  | .own _ => ∃ o, h.get? a = some o
  | .xd fs => ∃ mA, h.Ns1 a mA ∧ ∀ f, RelO (fs.lookup f) (mA f)
  | .rng lo hi => ∃ t u v, h.get? a = some { cls := .type "range", data := .fields #[.int lo t, .int hi u, .int 1 v] }
  | .frz o u => h.get? a = some o ∧ ObjOk H h a u
  | .tbl ps => h.get? a = some { cls := .none, data := .fields ps }
  | .met f x => h.get? a = some (PySem.W.methodObj (.ref f) (.ref x))
  | .ext φ => φ h ∧ (∃ o, h.get? a = some o) ∧ ∀ h1 h2 : Heap, φ h1 → (∀ o, h1.get? a = some o → h2.get? a = some o) → φ h2

def HOk (H : Hp) (h : Heap) : Prop := ∀ a o, H a = some o → ObjOk P w H h a o
end

section
variable {P : Program} {w : World} {H H' : Hp} {h h' : Heap} {a : Addr} {o : HO}
theorem ObjOk.lt (x : ObjOk P w H h a o) : a < h.objs.size := by
  cases o with
  | lst xs => obtain ⟨_, _, _, _, e⟩ := x; exact Heap.lt_size e
  | tup xs => obtain ⟨_, _, _, p⟩ := x; exact p.lt
  | dK kvs => obtain ⟨_, _, _, _, o, _, _, e, _⟩ := x; exact Heap.lt_size e
  | dT kvs => obtain ⟨_, _, _, _, o, _, _, e, _⟩ := x; exact Heap.lt_size e
  | set S n => obtain ⟨o, _, _, _, e, _⟩ := x; exact Heap.lt_size e
  | ins C dx fs => obtain ⟨_, _, _, e, _⟩ := x; exact Heap.lt_size e
  | own y => obtain ⟨_, e⟩ := x; exact Heap.lt_size e
  | xd fs => obtain ⟨_, ⟨_, _, _, e, _⟩, _⟩ := x; exact Heap.lt_size e
  | rng lo hi => obtain ⟨_, _, _, e⟩ := x; exact Heap.lt_size e
  | frz ob u => obtain ⟨e, _⟩ := x; exact Heap.lt_size e
  | tbl ps => exact Heap.lt_size (show h.get? a = some _ from x)
  | met f y => exact Heap.lt_size (show h.get? a = some _ from x)
  | ext φ => obtain ⟨_, ⟨_, e⟩, _⟩ := x; exact Heap.lt_size e
theorem Paired.mapP {α β : Type} {F G : α → β → Prop} : ∀ {l₁ : List α} {l₂ : List β}, Paired F l₁ l₂ → (∀ a b, F a b → G a b) → Paired G l₁ l₂
  | _, _, .nil, _ => .nil
  | _, _, .cons r t, f => .cons (f _ _ r) (Paired.mapP t f)
theorem ObjOk.stay (x : ObjOk P w H h a o) (k : ∀ b u, (b = a ∨ H b = some (.own a)) → h.get? b = some u → h'.get? b = some u)
    (ho : ∀ b, H b = some (.own a) → H' b = some (.own a)) (ht : ∀ b xs, H b = some (.tup xs) → H' b = some (.tup xs)) : ObjOk P w H' h' a o := by
  induction o with
  | lst xs => obtain ⟨z, its, n, r, e⟩ := x; exact ⟨z, its, n, r, k _ _ (.inl rfl) e⟩
  | tup xs => obtain ⟨z, its, r, ob, e, c⟩ := x; exact ⟨z, its, r, ob, k _ _ (.inl rfl) e, c⟩
  | dK kvs => obtain ⟨z, y, vs, r, ob, es, ep, e, c⟩ := x; exact ⟨z, y, vs, r, ob, es, ep, k _ _ (.inl rfl) e, c⟩
  | dT kvs =>
    obtain ⟨z, y, xs, r, ob, es, ep, e, c⟩ := x
    exact ⟨z, y, xs, Paired.mapP r fun p q z => ⟨z.1, ht _ _ z.2.1, z.2.2⟩, ob, es, ep, k _ _ (.inl rfl) e, c⟩
  | set S n => obtain ⟨ob, es, ep, t, e, c⟩ := x; exact ⟨ob, es, ep, t, k _ _ (.inl rfl) e, c⟩
  | ins C dx fs =>
    obtain ⟨d, z, ne, e, mA, ⟨od, es, ep, e2, c⟩, r⟩ := x
    exact ⟨ho _ d, z, ne, k _ _ (.inl rfl) e, mA, ⟨od, es, ep, k _ _ (.inr d) e2, c⟩, r⟩
  | own y => obtain ⟨ob, e⟩ := x; exact ⟨ob, k _ _ (.inl rfl) e⟩
  | xd fs => obtain ⟨mA, ⟨od, es, ep, e, c⟩, r⟩ := x; exact ⟨mA, ⟨od, es, ep, k _ _ (.inl rfl) e, c⟩, r⟩
  | rng lo hi => obtain ⟨t, u, v, e⟩ := x; exact ⟨t, u, v, k _ _ (.inl rfl) e⟩
  | frz ob u ih => obtain ⟨e, q⟩ := x; exact ⟨k _ _ (.inl rfl) e, ih q⟩
  | tbl ps =>
    have e : h.get? a = some { cls := .none, data := .fields ps } := x
    show h'.get? a = some { cls := .none, data := .fields ps }
    exact k a _ (.inl rfl) e
  | met f y =>
    have e : h.get? a = some (PySem.W.methodObj (.ref f) (.ref y)) := x
    show h'.get? a = some (PySem.W.methodObj (.ref f) (.ref y))
    exact k a _ (.inl rfl) e
  | ext φ => obtain ⟨p, ⟨o, e⟩, st⟩ := x; exact ⟨st _ _ p fun o q => k _ _ (.inl rfl) q, ⟨o, k _ _ (.inl rfl) e⟩, st⟩
theorem HOk.lt (x : HOk P w H h) (e : H a = some o) : a < h.objs.size := (x a o e).lt
theorem HOk.fresh (x : HOk P w H h) (e : h.objs.size ≤ a) : H a = none := by
  cases q : H a with
  | none => rfl
  | some u => exact absurd (Nat.lt_of_lt_of_le (x.lt q) e) (Nat.lt_irrefl _)

theorem HOk.kept (x : HOk P w H h) (k : ∀ b u, h.get? b = some u → h'.get? b = some u) : HOk P w H h' := fun a o e =>
  (x a o e).stay (fun b u _ q => k b u q) (fun _ q => q) fun _ _ q => q

theorem HOk.laid (x : HOk P w H h) (k : ∀ b u, h.get? b = some u → h'.get? b = some u) (hp : h.objs.size ≤ a) (new : ObjOk P w (upd H a o) h' a o) : HOk P w (upd H a o) h' := fun b u e => by
  have hn := x.fresh hp
  by_cases hb : b = a
  · subst hb; rw [upd_same] at e; cases e; exact new
  · rw [upd_ne hb] at e
    exact (x b u e).stay (fun c v _ q => k c v q) (fun c q => by rw [upd_ne (ne_of_none q hn)]; exact q) fun c xs q => by rw [upd_ne (ne_of_none q hn)]; exact q
end


def Rd (H : Hp) (a : Addr) (u : HO) : Prop := H a = some u ∨ ∃ o, H a = some (.frz o u)
theorem Rd.of {H : Hp} {a : Addr} {u : HO} (h : H a = some u) : Rd H a u := .inl h
theorem Rd.ok {P : Program} {w : World} {H : Hp} {h : Heap} {a : Addr} {u : HO} (r : Rd H a u) (x : HOk P w H h) : ObjOk P w H h a u := by
  rcases r with r | ⟨o, r⟩
  · exact x a u r
  · obtain ⟨_, q⟩ := x a _ r
    exact q

def Mut : Option HO → Prop
  | some (.lst _) => True
  | some (.dK _) => True
  | some (.dT _) => True
  | some (.set _ _) => True
  | some (.ins _ _ _) => True
  | some (.ext _) => True
  | _ => False
section
variable {P : Program} {w : World} {H : Hp} {h h' : Heap} {x e : Addr} {o' : HO}

theorem HOk.write (ok : HOk P w H h) (mu : Mut (H x)) (he : e = x ∨ H e = some (.own x)) (k : ∀ b u, b ≠ e → h.get? b = some u → h'.get? b = some u) (heo : ∃ u, h'.get? e = some u)
    (new : ObjOk P w (upd H x o') h' x o') : HOk P w (upd H x o') h' := fun b u q => by
  have nown : ∀ c y, H c = some (.own y) → c ≠ x := fun c y r z => by subst z; rw [r] at mu; exact mu
  have ntup : ∀ c xs, H c = some (.tup xs) → c ≠ x := fun c xs r z => by subst z; rw [r] at mu; exact mu
  by_cases hb : b = x
  · subst hb; rw [upd_same] at q; cases q; exact new
  · rw [upd_ne hb] at q
    by_cases hbe : b = e
    · have q' : H b = some (.own x) := by
        rcases he with z | z
        · exact absurd (hbe.trans z) hb
        · rw [hbe]; exact z
      rw [q] at q'; cases q'
      obtain ⟨v, hv⟩ := heo
      exact ⟨v, by rw [hbe]; exact hv⟩
    · refine (ok b u q).stay (fun c v hc r => k c v ?_ r) (fun c r => by rw [upd_ne (nown c b r)]; exact r) fun c xs r => by rw [upd_ne (ntup c xs r)]; exact r
      rcases hc with rfl | hc
      · exact hbe
      · rintro rfl
        rcases he with z | z
        · exact nown c b hc z
        · rw [hc] at z; cases z; exact hb rfl
end


structure Un (fs ex : List Addr) (H H' : Hp) (h h' : Heap) : Prop where
  keep : ∀ b o, h.get? b = some o → H b = none → b ∉ fs → b ∉ ex → h'.get? b = some o
  slot : ∀ b o, h.get? b = some o → H b = none → b ∈ fs → b ∉ ex → ∃ sl, h'.get? b = some { o with slots := sl }
  free : ∀ b o, h.get? b = some o → H b = none → b ∉ ex → H' b = none
  there : ∀ b o, h.get? b = some o → b ∉ ex → ∃ o', h'.get? b = some o'
  tups : ∀ b xs, H b = some (.tup xs) → H' b = some (.tup xs)
  frzs : ∀ b o u, H b = some (.frz o u) → H' b = some (.frz o u)
  tbls : ∀ b ps, H b = some (.tbl ps) → ∃ more, H' b = some (.tbl (ps ++ more))
section
variable {fs fs' ex ex' : List Addr} {H H1 H2 : Hp} {h h1 h2 h' : Heap} {a x e : Addr} {o : HO}
theorem Un.any (u : Un fs ex H H1 h h1) {b : Addr} {ob : Obj} (q : h.get? b = some ob) (n : H b = none) (hx : b ∉ ex) : ∃ sl, h1.get? b = some { ob with slots := sl } := by
  by_cases hb : b ∈ fs
  · exact u.slot b ob q n hb hx
  · exact ⟨ob.slots, u.keep b ob q n hb hx⟩
theorem Un.trans (a : Un fs ex H H1 h h1) (b : Un fs ex H1 H2 h1 h2) : Un fs ex H H2 h h2 where
  keep := fun c ob q n hc hx => b.keep c ob (a.keep c ob q n hc hx) (a.free c ob q n hx) hc hx
  slot := fun c ob q n hc hx => by
    obtain ⟨sl, e1⟩ := a.slot c ob q n hc hx
    obtain ⟨sl', e2⟩ := b.slot c _ e1 (a.free c ob q n hx) hc hx
    exact ⟨sl', e2⟩
  free := fun c ob q n hx => by
    obtain ⟨o', e1⟩ := a.there c ob q hx
    exact b.free c o' e1 (a.free c ob q n hx) hx
  there := fun c ob q hx => by
    obtain ⟨o', e1⟩ := a.there c ob q hx
    exact b.there c o' e1 hx
  tups := fun c xs q => b.tups c xs (a.tups c xs q)
  frzs := fun c ob xs q => b.frzs c ob xs (a.frzs c ob xs q)
  tbls := fun c ps q => by
    obtain ⟨m1, e1⟩ := a.tbls c ps q
    obtain ⟨m2, e2⟩ := b.tbls c _ e1
    exact ⟨m1 ++ m2, by rw [e2, Array.append_assoc]⟩
theorem Un.kept (k : ∀ b u, h.get? b = some u → h'.get? b = some u) : Un fs ex H H h h' :=
  ⟨fun b ob q _ _ _ => k b ob q, fun b ob q _ _ _ => ⟨ob.slots, k b ob q⟩, fun _ _ _ n _ => n, fun b ob q _ => ⟨ob, k b ob q⟩, fun _ _ q => q, fun _ _ _ q => q, fun _ ps q => ⟨#[], by rw [q]; simp⟩⟩
theorem Un.refl : Un fs ex H H h h := Un.kept fun _ _ q => q
theorem Un.laid (k : ∀ b u, h.get? b = some u → h'.get? b = some u) (hp : h.objs.size ≤ a) (hn : H a = none) : Un fs ex H (upd H a o) h h' where
  keep := fun b u q _ _ _ => k b u q
  slot := fun b u q _ _ _ => ⟨u.slots, k b u q⟩
  free := fun b u q n _ => by rw [upd_ne (Nat.ne_of_lt (Nat.lt_of_lt_of_le (Heap.lt_size q) hp))]; exact n
  there := fun b u q _ => ⟨u, k b u q⟩
  tups := fun b xs q => by rw [upd_ne (ne_of_none q hn)]; exact q
  frzs := fun b u xs q => by rw [upd_ne (ne_of_none q hn)]; exact q
  tbls := fun b ps q => ⟨#[], by rw [upd_ne (ne_of_none q hn), q]; simp⟩
theorem Un.write (mu : Mut (H x)) (he : e = x ∨ H e = some (.own x)) (k : ∀ b u, b ≠ e → h.get? b = some u → h'.get? b = some u) (heo : ∃ u, h'.get? e = some u) : Un fs ex H (upd H x o) h h' := by
  have hx : ∀ b, H b = none → b ≠ x := fun b n z => by subst z; rw [n] at mu; exact mu
  have hb : ∀ b, H b = none → b ≠ e := fun b n z => by
    subst z
    rcases he with r | r
    · exact hx b n r
    · rw [n] at r; cases r
  have hm : ∀ b u, H b = some u → ¬ Mut (some u) → b ≠ x := fun b u q nm z => by subst z; rw [q] at mu; exact nm mu
  refine ⟨fun b u q n _ _ => k b u (hb b n) q, fun b u q n _ _ => ⟨u.slots, k b u (hb b n) q⟩, fun b u q n _ => by rw [upd_ne (hx b n)]; exact n, fun b u q _ => ?_,
    fun b xs q => by rw [upd_ne (hm b _ q fun z => z)]; exact q, fun b u xs q => by rw [upd_ne (hm b _ q fun z => z)]; exact q, fun b ps q => ⟨#[], by rw [upd_ne (hm b _ q fun z => z), q]; simp⟩⟩
  by_cases hbe : b = e
  · subst hbe; exact heo
  · exact ⟨u, k b u hbe q⟩
theorem Un.mono (u : Un fs ex H H1 h h1) (hs : ∀ b ∈ fs, b ∈ fs') (hx : ∀ b ∈ ex, b ∈ ex') : Un fs' ex' H H1 h h1 :=
  ⟨fun b ob q n hb he => u.keep b ob q n (fun z => hb (hs b z)) fun z => he (hx b z), fun _ _ q n _ he => u.any q n fun z => he (hx _ z), fun b ob q n he => u.free b ob q n fun z => he (hx b z), fun b ob q he => u.there b ob q fun z => he (hx b z), u.tups, u.frzs, u.tbls⟩
end


def trk (h : Heap) (H : Hp) : List Addr := (List.range h.objs.size).filter fun a => (H a).isSome
def hidT (h : Heap) (H : Hp) : Heap := PySem.W.hideAll h (trk h H)
theorem hidT_size (h : Heap) (H : Hp) : (hidT h H).objs.size = h.objs.size := PySem.W.hideAll_size _ _
theorem hidT_get {h : Heap} {H : Hp} {b : Addr} {o : Obj} (e : h.get? b = some o) (n : H b = none) : (hidT h H).get? b = some o :=
  PySem.W.hideAll_get _ e fun hm => by
    have q : (H b).isSome = true := (List.mem_filter.mp hm).2
    rw [n] at q; simp at q
theorem of_hidT {h : Heap} {H : Hp} {b : Addr} {o : Obj} (e : (hidT h H).get? b = some o) : h.get? b = some o ∧ H b = none := by
  have e' : h.get? b = some o := PySem.W.of_hideAll (trk h H) e
  refine ⟨e', ?_⟩
  cases q : H b with
  | none => rfl
  | some x =>
    have hm : b ∈ trk h H := List.mem_filter.mpr ⟨List.mem_range.mpr (Heap.lt_size e'), by simp [q]⟩
    have z : (hidT h H).get? b = none := PySem.W.hideAll_none (trk h H) hm
    rw [z] at e; cases e


def allNews (g h : Heap) (L : Addr) : List (Addr × Obj) := (List.range h.objs.size).filterMap fun a => if a = L ∨ (g.get? a).isSome = true then none else (h.get? a).map fun o => (a, o)
def rest (g h : Heap) (L d : Addr) : List (Addr × Obj) := (allNews g h L).filter fun p => decide (p.1 ≠ d)
end L2

namespace L2
open PySem PySem.Spec PyProof.Rows


structure Mod (K : PySem.W.Frag) (mg : Str → Option Value) (base : Heap) : Prop where
  kin : K.In base
  glob : base.Ns mainGlobals mg
  blt : ∃ mb, base.Ns builtinsNs mb ∧ ∀ x : Str, x ≠ "__name__" → mb x = bootBuiltins x
  nolimit : base.NoLimit


structure Cx where
  prog : Program
  w : World
  K : PySem.W.Frag
  mg : Str → Option Value
  base : Heap
  A : Around
  N : List Str
  s₀ : Shared
  H₀ : Hp
  env : Env
  outer : List Env
  stack : List Env
  ex : List Addr
  fn : Str → Bool
  calm : Bool
  pn : List (Addr × Obj)
  xe : Value → Shared → Prop

def frs (l : List Env) : List Addr := l.filterMap (·.frame)
abbrev Cx.fs (X : Cx) : List Addr := frs X.outer

def Vis (sc : Scope) (x : Str) : Prop := sc.names.lookup x = some .local ∨ sc.names.lookup x = some .cell ∨ sc.names.lookup x = some .free
def Loc (sc : Scope) (x : Str) : Prop := sc.names.lookup x = some .local ∨ sc.names.lookup x = some .cell
def Look (env : Env) (h : Heap) (m : Str → Option Value) (x : Str) (u : Value) : Prop :=
  (env.kindOf x = some .local ∧ m x = some u) ∨ ((env.kindOf x = some .cell ∨ env.kindOf x = some .free) ∧ ∃ c, env.cells.lookup x = some c ∧ h.IsCell c (some u))

structure Cx.Ok (X : Cx) : Prop where
  mod : Mod X.K X.mg X.base
  kind : X.env.scope.kind = .function
  glob : X.env.globals = mainGlobals
  blt : X.env.builtins = builtinsNs
  above : X.s₀.heap.objs.size ≤ X.env.locals
  inj : ∀ x y c, X.env.cells.lookup x = some c → X.env.cells.lookup y = some c → x = y
  has : ∀ x, (X.env.kindOf x = some .cell ∨ X.env.kindOf x = some .free) → ∃ c, X.env.cells.lookup x = some c
  cab : ∀ x c, X.fn x = true → X.env.cells.lookup x = some c → X.s₀.heap.objs.size ≤ c
  hd : X.calm = true → X.A.handled = none
  frames : X.A.frames = some X.stack
  stk : X.stack = X.outer ∨ (X.stack = X.env :: X.outer ∧ X.env.frame = some X.env.locals)
  exf : ∀ b ∈ X.ex, b ≠ X.env.locals ∧ ∀ x c, X.env.cells.lookup x = some c → c ≠ b
  bs : ∀ b o, X.base.get? b = some o → X.s₀.heap.get? b = some o ∧ X.H₀ b = none
  bsz : X.base.objs.size ≤ X.s₀.heap.objs.size
  noex : ∀ b o, X.base.get? b = some o → b ∉ X.ex
  exfs : ∀ b ∈ X.ex, b ∉ X.fs
  funs : X.s₀.heap.FunFrames X.base X.outer
  frf : ∀ b ∈ X.fs, X.H₀ b = none

structure Inv (X : Cx) (pins : List (Addr × Obj)) (σ : List (Option V)) (H : Hp) (s : Shared) : Prop where
  ok : X.Ok
  os : s.os = X.s₀.os
  bare : AllBare s.gens
  base : Un X.fs X.ex X.H₀ H X.s₀.heap s.heap
  loc : ∃ m, s.heap.Ns X.env.locals m ∧ ∀ (i : Nat) (x : Str) (v : V), X.N[i]? = some x → σ[i]? = some (some v) → Vis X.env.scope x → ∃ u, RelV v u ∧ Look X.env s.heap m x u
  cell : ∀ x c, X.env.cells.lookup x = some c → ∃ v, s.heap.IsCell c v
  free : H X.env.locals = none
  freeC : ∀ x c, X.env.cells.lookup x = some c → H c = none
  pin : ∀ p ∈ X.pn ++ pins, s.heap.get? p.1 = some p.2 ∧ H p.1 = none ∧ p.1 ≠ X.env.locals ∧ p.1 ∉ X.fs ∧ ∀ v, p.2.data ≠ .cell v
  hok : HOk X.prog X.w H s.heap
  len : σ.length = X.N.length

section
variable {X : Cx} {pins : List (Addr × Obj)} {σ : List (Option V)} {H H' : Hp} {s : Shared} {h' : Heap}

theorem Cx.Ok.nofr (ok : X.Ok) {b : Addr} {o : Obj} (e : X.base.get? b = some o) : b ∉ X.fs := fun hb => by
  have := (ok.funs.mem hb).1
  rw [e] at this; cases this
theorem Inv.bs (I : Inv X pins σ H s) : ∀ b o, X.base.get? b = some o → s.heap.get? b = some o ∧ H b = none := fun b o e =>
  ⟨I.base.keep b o (I.ok.bs b o e).1 (I.ok.bs b o e).2 (I.ok.nofr e) (I.ok.noex b o e), I.base.free b o (I.ok.bs b o e).1 (I.ok.bs b o e).2 (I.ok.noex b o e)⟩
theorem Inv.bk (I : Inv X pins σ H s) : ∀ b o, X.base.get? b = some o → s.heap.get? b = some o := fun b o e => (I.bs b o e).1
theorem Inv.mod (I : Inv X pins σ H s) : Mod X.K X.mg X.base := I.ok.mod
theorem Inv.kIn (I : Inv X pins σ H s) : X.K.In s.heap := I.ok.mod.kin.keeps I.bk
theorem Inv.nolimit (I : Inv X pins σ H s) : s.heap.NoLimit := I.ok.mod.nolimit.keeps I.bk

theorem Inv.fr (I : Inv X pins σ H s) : ∃ m, Fr X.base X.env.locals s.heap m :=
  let ⟨m, hn, _⟩ := I.loc
  ⟨m, hn, I.bk, Nat.le_trans I.ok.bsz I.ok.above⟩
theorem Inv.lt (I : Inv X pins σ H s) : X.env.locals < s.heap.objs.size := let ⟨_, hn, _⟩ := I.loc; hn.lt
theorem Inv.sz (I : Inv X pins σ H s) : X.s₀.heap.objs.size ≤ s.heap.objs.size := Nat.le_trans I.ok.above (Nat.le_of_lt I.lt)
theorem Inv.nofs (I : Inv X pins σ H s) {a : Addr} (h : s.heap.objs.size ≤ a) : a ∉ X.fs := fun hb => by
  obtain ⟨_, o, ho, _⟩ := I.ok.funs.mem hb
  exact absurd (Nat.lt_of_lt_of_le (Heap.lt_size ho) (Nat.le_trans I.sz h)) (Nat.lt_irrefl _)
theorem Inv.cne (I : Inv X pins σ H s) : ∀ x c, X.env.cells.lookup x = some c → c ≠ X.env.locals := fun x c e z => by
  obtain ⟨v, o, ho, hd⟩ := I.cell x c e
  obtain ⟨m, ⟨o', es, ep, ho', hd', _⟩, _⟩ := I.loc
  rw [z, ho'] at ho; cases ho; rw [hd'] at hd; cases hd
theorem Inv.funs (I : Inv X pins σ H s) : s.heap.FunFrames X.base X.outer := by
  have all : ∀ (l : List Env), (∀ b ∈ frs l, b ∈ X.fs) → X.s₀.heap.FunFrames X.base l → s.heap.FunFrames X.base l := by
    intro l
    induction l with
    | nil => intro _ _; trivial
    | cons env r ih =>
      intro hs hl
      obtain ⟨hk, ⟨L, o, hf, hn, ho, hd⟩, hr⟩ := hl
      have hL : L ∈ X.fs := hs L (by unfold frs; rw [List.filterMap_cons, hf]; exact List.mem_cons_self)
      obtain ⟨sl, e⟩ := I.base.slot L o ho (I.ok.frf L hL) hL fun z => I.ok.exfs L z hL
      exact ⟨hk, ⟨L, _, hf, hn, e, hd⟩, ih (fun b hb => hs b (by unfold frs; rw [List.filterMap_cons, hf]; exact List.mem_cons_of_mem _ hb)) hr⟩
  exact all X.outer (fun _ hb => hb) I.ok.funs


theorem Inv.stack (I : Inv X pins σ H s) : s.heap.FunFrames X.base X.stack := by
  rcases I.ok.stk with e | ⟨e, hf⟩
  · rw [e]; exact I.funs
  · rw [e]
    obtain ⟨m, hn, _⟩ := I.loc
    refine .cons (by rw [I.ok.kind]; decide) hf hn ?_ I.funs
    exact Heap.get?_none_of_le (Nat.le_trans I.ok.bsz I.ok.above)
theorem Inv.stkSub (I : Inv X pins σ H s) : ∀ b ∈ frs X.stack, b ∈ X.env.locals :: X.fs := fun b hb => by
  rcases I.ok.stk with e | ⟨e, hf⟩
  · rw [e] at hb; exact List.mem_cons_of_mem _ hb
  · rw [e] at hb
    unfold frs at hb
    rw [List.filterMap_cons, hf] at hb
    exact hb
theorem Inv.stkFree (I : Inv X pins σ H s) : ∀ b ∈ frs X.stack, H b = none := fun b hb => by
  rcases List.mem_cons.mp (I.stkSub b hb) with e | hb
  · rw [e]; exact I.free
  · obtain ⟨_, o, ho, _⟩ := I.ok.funs.mem hb
    exact I.base.free b o ho (I.ok.frf b hb) fun z => I.ok.exfs b z hb


theorem Inv.step {g' : Array GenState} {t' : Nat} {d' : Drawn} {ch : List Addr} (I : Inv X pins σ H s)
    (hch : ∀ b ∈ ch, (b ∈ X.ex ∨ X.s₀.heap.objs.size ≤ b) ∧ b ≠ X.env.locals ∧ (∀ x c, X.env.cells.lookup x = some c → c ≠ b) ∧ ∀ p ∈ X.pn ++ pins, p.1 ≠ b)
    (keep : ∀ b o, b ≠ X.env.locals → b ∉ X.fs → b ∉ ch → s.heap.get? b = some o → H b = none → h'.get? b = some o)
    (slot : ∀ b o, b ≠ X.env.locals → b ∈ X.fs → b ∉ ch → s.heap.get? b = some o → H b = none → ∃ sl, h'.get? b = some { o with slots := sl }) (free : ∀ b o, b ∉ ch → s.heap.get? b = some o → H b = none → H' b = none)
    (there : ∀ b o, b ∉ ch → s.heap.get? b = some o → ∃ o', h'.get? b = some o')
    (tups : ∀ b xs, H b = some (.tup xs) → H' b = some (.tup xs)) (frzs : ∀ b o u, H b = some (.frz o u) → H' b = some (.frz o u)) (tbls : ∀ b ps, H b = some (.tbl ps) → ∃ more, H' b = some (.tbl (ps ++ more)))
    (ns : ∀ m, s.heap.Ns X.env.locals m → h'.Ns X.env.locals m) (hok : HOk X.prog X.w H' h') (hg : AllBare g') :
    Inv X pins σ H' { s with heap := h', gens := g', drawn := d', toks := t' } := by
  have neL : ∀ b o, X.s₀.heap.get? b = some o → b ≠ X.env.locals := fun b o e => Nat.ne_of_lt (Nat.lt_of_lt_of_le (Heap.lt_size e) I.ok.above)
  have neC : ∀ b o, X.s₀.heap.get? b = some o → b ∉ X.ex → b ∉ ch := fun b o e hx hb => by
    rcases (hch b hb).1 with z | z
    · exact hx z
    · exact absurd (Nat.lt_of_lt_of_le (Heap.lt_size e) z) (Nat.lt_irrefl _)
  have cellK : ∀ x c, X.env.cells.lookup x = some c → ∀ v, s.heap.IsCell c v → h'.IsCell c v := fun x c e v ⟨o, ho, hd⟩ => by
    have nch : c ∉ ch := fun z => (hch c z).2.2.1 x c e rfl
    by_cases hc : c ∈ X.fs
    · obtain ⟨sl, q⟩ := slot c o (I.cne x c e) hc nch ho (I.freeC x c e)
      exact ⟨_, q, hd⟩
    · exact ⟨o, keep c o (I.cne x c e) hc nch ho (I.freeC x c e), hd⟩
  refine ⟨I.ok, I.os, hg, ⟨fun b o e n hb hx => ?_, fun b o e n hb hx => ?_, fun b o e n hx => ?_, fun b o e hx => ?_, fun b xs e => tups b xs (I.base.tups b xs e), fun b o xs e => frzs b o xs (I.base.frzs b o xs e), fun b ps e => ?_⟩, ?_, fun x c e => ?_, ?_, fun x c e => ?_, fun p hp => ?_, hok, I.len⟩
  · exact keep b o (neL b o e) hb (neC b o e hx) (I.base.keep b o e n hb hx) (I.base.free b o e n hx)
  · obtain ⟨sl, e1⟩ := I.base.slot b o e n hb hx
    obtain ⟨sl', e2⟩ := slot b _ (neL b o e) hb (neC b o e hx) e1 (I.base.free b o e n hx)
    exact ⟨sl', e2⟩
  · obtain ⟨o', e1⟩ := I.base.there b o e hx
    exact free b o' (neC b o e hx) e1 (I.base.free b o e n hx)
  · obtain ⟨o', e1⟩ := I.base.there b o e hx
    exact there b o' (neC b o e hx) e1
  · obtain ⟨m1, e1⟩ := I.base.tbls b ps e
    obtain ⟨m2, e2⟩ := tbls b _ e1
    exact ⟨m1 ++ m2, by rw [e2, Array.append_assoc]⟩
  · obtain ⟨m, hn, hl⟩ := I.loc
    refine ⟨m, ns m hn, fun i x v e1 e2 e3 => ?_⟩
    obtain ⟨u, r, l⟩ := hl i x v e1 e2 e3
    refine ⟨u, r, ?_⟩
    rcases l with l | ⟨k, c, e, z⟩
    · exact .inl l
    · exact .inr ⟨k, c, e, cellK x c e _ z⟩
  · obtain ⟨v, z⟩ := I.cell x c e
    exact ⟨v, cellK x c e v z⟩
  · obtain ⟨m, ⟨o, _, _, ho, _⟩, _⟩ := I.loc
    exact free _ o (fun z => (hch _ z).2.1 rfl) ho I.free
  · obtain ⟨v, o, ho, hd⟩ := I.cell x c e
    exact free c o (fun z => (hch c z).2.2.1 x c e rfl) ho (I.freeC x c e)
  · obtain ⟨e, n, ne, nf, d⟩ := I.pin p hp
    have nch : p.1 ∉ ch := fun z => (hch p.1 z).2.2.2 p hp rfl
    exact ⟨keep p.1 p.2 ne nf nch e n, free p.1 p.2 nch e n, ne, nf, d⟩

theorem Inv.un {t' : Nat} (I : Inv X pins σ H s) (u : Un X.fs [] H H' s.heap h') (hok : HOk X.prog X.w H' h') : Inv X pins σ H' { s with heap := h', toks := t' } := by
  obtain ⟨m, ⟨o, es, ep, ho, r⟩, _⟩ := id I.loc
  obtain ⟨sl, hL⟩ := u.any ho I.free (by simp)
  exact I.step (g' := s.gens) (d' := s.drawn) (ch := []) (fun _ z => nomatch z) (fun b o _ hb _ e n => u.keep b o e n hb (by simp)) (fun b o _ hb _ e n => u.slot b o e n hb (by simp)) (fun b o _ e n => u.free b o e n (by simp)) (fun b o _ e => u.there b o e (by simp)) u.tups u.frzs u.tbls (fun m' hm => by
    obtain ⟨o', es', ep', ho', r'⟩ := hm
    rw [ho] at ho'; cases ho'
    exact ⟨_, es', ep', hL, r'⟩) hok I.bare

theorem Inv.call {g' : Array GenState} {t' : Nat} {d' : Drawn} {ch : List Addr} (I : Inv X pins σ H s) (u : Un (frs X.stack) ch H H' s.heap h') (hok : HOk X.prog X.w H' h') (hg : AllBare g')
    (hch : ∀ b ∈ ch, (b ∈ X.ex ∨ X.s₀.heap.objs.size ≤ b) ∧ b ≠ X.env.locals ∧ (∀ x c, X.env.cells.lookup x = some c → c ≠ b) ∧ ∀ p ∈ X.pn ++ pins, p.1 ≠ b) :
    Inv X pins σ H' { s with heap := h', gens := g', drawn := d', toks := t' } := by
  obtain ⟨m, ⟨o, es, ep, ho, r⟩, _⟩ := id I.loc
  obtain ⟨sl, hL⟩ := u.any ho I.free fun z => (hch _ z).2.1 rfl
  exact I.step (ch := ch) hch (fun b o hL hb hc e n => u.keep b o e n (fun z => (List.mem_cons.mp (I.stkSub b z)).elim hL hb) hc) (fun b o _ _ hc e n => u.any e n hc) (fun b o hc e n => u.free b o e n hc) (fun b o hc e => u.there b o e hc) u.tups u.frzs u.tbls (fun m' hm => by
    obtain ⟨o', es', ep', ho', r'⟩ := hm
    rw [ho] at ho'; cases ho'
    exact ⟨_, es', ep', hL, r'⟩) hok hg

theorem Inv.turned {t' : Nat} {it : Addr} (I : Inv X pins σ H s) (k : ∀ b o, b ≠ it → s.heap.get? b = some o → h'.get? b = some o) (hn : H it = none) (hL : it ≠ X.env.locals)
    (h1 : it ∈ X.ex ∨ X.s₀.heap.objs.size ≤ it) (h2 : ∀ x c, X.env.cells.lookup x = some c → c ≠ it) (h3 : ∀ p ∈ X.pn ++ pins, p.1 ≠ it) : Inv X pins σ H { s with heap := h', toks := t' } := by
  have nit : ∀ b u, H b = some u → b ≠ it := fun b u e z => by rw [z, hn] at e; cases e
  refine I.step (g' := s.gens) (d' := s.drawn) (ch := [it]) (fun b hb => ?_) (fun b o _ _ hc e _ => k b o (fun z => hc (by simp [z])) e) (fun b o _ _ hc e _ => ⟨o.slots, k b o (fun z => hc (by simp [z])) e⟩) (fun _ _ _ _ n => n)
    (fun b o hc e => ⟨o, k b o (fun z => hc (by simp [z])) e⟩) (fun _ _ e => e) (fun _ _ _ e => e) (fun b ps e => ⟨#[], by rw [e]; simp⟩) (fun m hm => ?_) (fun b u e => ?_) I.bare
  · have e : b = it := by simpa using hb
    subst e
    exact ⟨h1, hL, h2, h3⟩
  · obtain ⟨o, es, ep, ho, r⟩ := hm
    exact ⟨o, es, ep, k _ o (Ne.symm hL) ho, r⟩
  · refine (I.hok b u e).stay (fun c v hc q => k c v ?_ q) (fun _ q => q) fun _ _ q => q
    rcases hc with z | z
    · rw [z]; exact nit b u e
    · exact nit c _ z
theorem Inv.tok (I : Inv X pins σ H s) (t : Nat) : Inv X pins σ H { s with toks := t } := I.un (h' := s.heap) (t' := t) Un.refl I.hok

theorem Inv.kept {t' : Nat} (I : Inv X pins σ H s) (k : ∀ b u, s.heap.get? b = some u → h'.get? b = some u) : Inv X pins σ H { s with heap := h', toks := t' } := I.un (Un.kept k) (I.hok.kept k)

theorem Inv.laid {a : Addr} {o : HO} {t' : Nat} (I : Inv X pins σ H s) (k : ∀ b u, s.heap.get? b = some u → h'.get? b = some u) (hp : s.heap.objs.size ≤ a) (new : ObjOk X.prog X.w (upd H a o) h' a o) :
    Inv X pins σ (upd H a o) { s with heap := h', toks := t' } := I.un (Un.laid k hp (I.hok.fresh hp)) (I.hok.laid k hp new)

theorem Inv.write {x e : Addr} {o : HO} {t' : Nat} (I : Inv X pins σ H s) (mu : Mut (H x)) (he : e = x ∨ H e = some (.own x)) (k : ∀ b u, b ≠ e → s.heap.get? b = some u → h'.get? b = some u) (heo : ∃ u, h'.get? e = some u)
    (new : ObjOk X.prog X.w (upd H x o) h' x o) : Inv X pins σ (upd H x o) { s with heap := h', toks := t' } := I.un (Un.write mu he k heo) (I.hok.write mu he k heo new)

theorem Inv.pins_of {pins' : List (Addr × Obj)} (I : Inv X pins σ H s) (h : ∀ p ∈ pins', s.heap.get? p.1 = some p.2 ∧ H p.1 = none ∧ p.1 ≠ X.env.locals ∧ p.1 ∉ X.fs ∧ ∀ v, p.2.data ≠ .cell v) : Inv X pins' σ H s :=
  ⟨I.ok, I.os, I.bare, I.base, I.loc, I.cell, I.free, I.freeC, fun p hp => (List.mem_append.mp hp).elim (fun z => I.pin p (List.mem_append_left _ z)) (h p), I.hok, I.len⟩

theorem nodup_ix {N : List Str} (hN : N.Nodup) {i j : Nat} {x : Str} (a : N[i]? = some x) (b : N[j]? = some x) : i = j := by
  obtain ⟨h1, e1⟩ := List.getElem?_eq_some_iff.mp a
  obtain ⟨h2, e2⟩ := List.getElem?_eq_some_iff.mp b
  exact (List.getElem_inj hN).mp (e1.trans e2.symm)


theorem store_ok2 {M : Model} {A : Around} {E : Value → Shared → Prop} {i : Nat} {x : Str} {v : V} {u : Value} {Q : Unit → Shared → Prop} (I : Inv X pins σ H s) (hN : X.N.Nodup) (hi : X.N[i]? = some x) (hx : Loc X.env.scope x) (r : RelV v u)
    (h : ∀ s', Inv X pins (σ.set i (some v)) H s' → (∃ a, Heap.SameBut a s.heap s'.heap ∧ (a = X.env.locals ∨ X.env.cells.lookup x = some a)) → Q () s') (hf : X.fn x = true ∨ X.env.scope.names.lookup x = some .local := by first | exact .inl rfl | exact .inr rfl | assumption) : wpAny M A (storeName X.env x u) Q E s := by
  obtain ⟨m, hn, hl⟩ := id I.loc
  have hcls : (X.env.scope.kind == .class || (X.env.scope.kind == .module && X.env.locals != X.env.globals)) = false := by rw [I.ok.kind]; rfl
  have hiσ : i < σ.length := by rw [I.len]; exact (List.getElem?_eq_some_iff.mp hi).1
  have cne := I.cne
  have tracked : ∀ {a : Addr} {h' : Heap}, (∃ o, s.heap.get? a = some o ∧ H a = none) → Heap.SameBut a s.heap h' → HOk X.prog X.w H h' := fun {a h'} ha hs b ob e => by
    obtain ⟨_, _, hfree⟩ := ha
    refine (I.hok b ob e).stay (fun c w' hc q => (hs.2 c ?_).trans q) (fun _ q => q) fun _ _ q => q
    rintro rfl
    rcases hc with rfl | hc
    · rw [hfree] at e; cases e
    · rw [hfree] at hc; cases hc
  rcases hx with hk | hk
  · refine wpAny_storeName_local hk hn (fun h' hn' hs => ?_) hcls
    obtain ⟨oL, _, _, hoL, _⟩ := id hn
    refine h _ ⟨I.ok, I.os, I.bare, ⟨fun b o e n hb hx => ?_, fun b o e n hb hx => ?_, I.base.free, fun b o e hx => ?_, I.base.tups, I.base.frzs, I.base.tbls⟩, ⟨_, hn', fun j y v' e1 e2 e3 => ?_⟩, fun y c e => ?_, I.free, I.freeC, fun p hp => ?_, tracked ⟨oL, hoL, I.free⟩ hs, by simpa using I.len⟩ ⟨_, hs, .inl rfl⟩
    · exact (hs.2 b (Nat.ne_of_lt (Nat.lt_of_lt_of_le (Heap.lt_size e) I.ok.above))).trans (I.base.keep b o e n hb hx)
    · obtain ⟨sl, e1⟩ := I.base.slot b o e n hb hx
      exact ⟨sl, (hs.2 b (Nat.ne_of_lt (Nat.lt_of_lt_of_le (Heap.lt_size e) I.ok.above))).trans e1⟩
    · obtain ⟨o', e1⟩ := I.base.there b o e hx
      exact ⟨o', (hs.2 b (Nat.ne_of_lt (Nat.lt_of_lt_of_le (Heap.lt_size e) I.ok.above))).trans e1⟩
    · by_cases hj : j = i
      · subst hj
        rw [hi] at e1; cases e1
        rw [List.getElem?_set_self hiσ] at e2
        cases e2
        exact ⟨u, r, .inl ⟨hk, by simp⟩⟩
      · rw [List.getElem?_set_ne (Ne.symm hj)] at e2
        obtain ⟨u', r', q⟩ := hl j y v' e1 e2 e3
        refine ⟨u', r', ?_⟩
        rcases q with ⟨k, e⟩ | ⟨k, c, e, z⟩
        · refine .inl ⟨k, ?_⟩
          have : y ≠ x := fun e => hj (nodup_ix hN e1 (e ▸ hi))
          simp [this, e]
        · exact .inr ⟨k, c, e, z.sameBut hs (cne y c e)⟩
    · obtain ⟨w', z⟩ := I.cell y c e
      exact ⟨w', z.sameBut hs (cne y c e)⟩
    · obtain ⟨e, n, ne, nf, d⟩ := I.pin p hp
      exact ⟨(hs.2 p.1 ne).trans e, n, ne, nf, d⟩
  · have hfn : X.fn x = true := by
      rcases hf with z | z
      · exact z
      · rw [z] at hk; cases hk
    obtain ⟨c, hc⟩ := I.ok.has x (.inl hk)
    obtain ⟨w', z⟩ := I.cell x c hc
    refine wpAny_storeName_cell I.ok.kind hk hc z (fun h' hc' hs => ?_)
    obtain ⟨oc, hoc, hocd⟩ := id z
    refine h { s with heap := h' } ⟨I.ok, I.os, I.bare, ⟨fun b o e n hb hx => ?_, fun b o e n hb hx => ?_, I.base.free, fun b o e hx => ?_, I.base.tups, I.base.frzs, I.base.tbls⟩, ⟨m, hn.sameBut hs (Ne.symm (cne x c hc)), fun j y v' e1 e2 e3 => ?_⟩, fun y c' e => ?_, I.free, I.freeC, fun p hp => ?_, tracked ⟨oc, hoc, I.freeC x c hc⟩ hs, by simpa using I.len⟩ ⟨c, hs, .inr hc⟩
    · exact (hs.2 b (Nat.ne_of_lt (Nat.lt_of_lt_of_le (Heap.lt_size e) (I.ok.cab x c hfn hc)))).trans (I.base.keep b o e n hb hx)
    · obtain ⟨sl, e1⟩ := I.base.slot b o e n hb hx
      exact ⟨sl, (hs.2 b (Nat.ne_of_lt (Nat.lt_of_lt_of_le (Heap.lt_size e) (I.ok.cab x c hfn hc)))).trans e1⟩
    · obtain ⟨o', e1⟩ := I.base.there b o e hx
      exact ⟨o', (hs.2 b (Nat.ne_of_lt (Nat.lt_of_lt_of_le (Heap.lt_size e) (I.ok.cab x c hfn hc)))).trans e1⟩
    · by_cases hj : j = i
      · subst hj
        rw [hi] at e1; cases e1
        rw [List.getElem?_set_self hiσ] at e2
        cases e2
        exact ⟨u, r, .inr ⟨.inl hk, c, hc, hc'⟩⟩
      · rw [List.getElem?_set_ne (Ne.symm hj)] at e2
        obtain ⟨u', r', q⟩ := hl j y v' e1 e2 e3
        refine ⟨u', r', ?_⟩
        rcases q with q | ⟨k, c', e, z'⟩
        · exact .inl q
        · refine .inr ⟨k, c', e, z'.sameBut hs ?_⟩
          rintro rfl
          exact hj (nodup_ix hN e1 (I.ok.inj _ _ _ e hc ▸ hi))
    · by_cases hcc : c' = c
      · subst hcc; exact ⟨_, hc'⟩
      · obtain ⟨w2, z2⟩ := I.cell y c' e
        exact ⟨w2, z2.sameBut hs hcc⟩
    · obtain ⟨e, n, ne, nf, d⟩ := I.pin p hp
      refine ⟨(hs.2 p.1 ?_).trans e, n, ne, nf, d⟩
      intro q
      rw [q, hoc] at e
      have q' : oc = p.2 := Option.some.inj e
      exact d w' (by rw [← q']; exact hocd)
theorem store_ok {M : Model} {A : Around} {E : Value → Shared → Prop} {i : Nat} {x : Str} {v : V} {u : Value} {Q : Unit → Shared → Prop} (I : Inv X pins σ H s) (hN : X.N.Nodup) (hi : X.N[i]? = some x) (hx : Loc X.env.scope x) (r : RelV v u)
    (h : ∀ s', Inv X pins (σ.set i (some v)) H s' → Q () s') (hf : X.fn x = true ∨ X.env.scope.names.lookup x = some .local := by first | exact .inl rfl | exact .inr rfl | assumption) : wpAny M A (storeName X.env x u) Q E s :=
  store_ok2 I hN hi hx r (fun s' I' _ => h s' I') hf

theorem Inv.call' {s' : Shared} {ch : List Addr} (I : Inv X pins σ H s) (ho : s'.os = s.os) (u : Un (frs X.stack) ch H H' s.heap s'.heap) (hok : HOk X.prog X.w H' s'.heap) (hg : AllBare s'.gens)
    (hch : ∀ b ∈ ch, (b ∈ X.ex ∨ X.s₀.heap.objs.size ≤ b) ∧ b ≠ X.env.locals ∧ (∀ x c, X.env.cells.lookup x = some c → c ≠ b) ∧ ∀ p ∈ X.pn ++ pins, p.1 ≠ b) : Inv X pins σ H' s' := by
  obtain ⟨h', g', d', t', o'⟩ := s'
  have e : o' = s.os := ho
  subst e
  exact I.call (g' := g') (t' := t') (d' := d') u hok hg hch
end



abbrev XK := Value → Option Addr → Hp → Prop
abbrev St := List (Option V)
abbrev VK := V → Hp → Prop

abbrev TE := St → Hp → VK → Prop
abbrev TT := St → Hp → (Bool → Hp → Prop) → Prop
abbrev TA := St → Hp → (List V → Hp → Prop) → Prop

structure Ends where
  nx : St → Hp → Prop
  rt : VK
  bk : St → Hp → Prop := fun _ _ => False
  ct : St → Hp → Prop := fun _ _ => False
abbrev TS := Ends → St → Hp → Prop

def EP (X : Cx) (pins : List (Addr × Obj)) (σ : St) (Q : VK) (u : Value) (s' : Shared) : Prop := ∃ v H', Inv X pins σ H' s' ∧ RelV v u ∧ Q v H'
def TP (X : Cx) (pins : List (Addr × Obj)) (σ : St) (Q : Bool → Hp → Prop) (b : Bool) (s' : Shared) : Prop := ∃ H', Inv X pins σ H' s' ∧ Q b H'
def AP (X : Cx) (pins : List (Addr × Obj)) (σ : St) (Q : List V → Hp → Prop) (us : List Value) (s' : Shared) : Prop := ∃ vs H', Inv X pins σ H' s' ∧ Vals vs us ∧ Q vs H'
def SP (X : Cx) (pins : List (Addr × Obj)) (D : Ends) (f : Flow) (s' : Shared) : Prop :=
  match f with
  | .next => ∃ σ' H', Inv X pins σ' H' s' ∧ D.nx σ' H'
  | .brk => ∃ σ' H', Inv X pins σ' H' s' ∧ D.bk σ' H'
  | .cont => ∃ σ' H', Inv X pins σ' H' s' ∧ D.ct σ' H'
  | .ret u => ∃ v σ' H', Inv X pins σ' H' s' ∧ RelV v u ∧ D.rt v H'

def PE (X : Cx) (e : Expr) (t : TE) : Prop :=
  ∀ (pins : List (Addr × Obj)) (s : Shared) (σ : St) (H : Hp) (Q : VK), Inv X pins σ H s → t σ H Q → wpAny (model X.prog X.w) X.A (eval e X.env) (EP X pins σ Q) X.xe s
def PT (X : Cx) (e : Expr) (t : TT) : Prop :=
  ∀ (pins : List (Addr × Obj)) (s : Shared) (σ : St) (H : Hp) (Q : Bool → Hp → Prop), Inv X pins σ H s → t σ H Q → wpAny (model X.prog X.w) X.A (isTrue e X.env (eval e X.env)) (TP X pins σ Q) X.xe s

def PW (X : Cx) (e : Expr) (t : TT) : Prop :=
  ∀ (whole : Sem Value) (pins : List (Addr × Obj)) (s : Shared) (σ : St) (H : Hp) (Q : Bool → Hp → Prop), Inv X pins σ H s → t σ H Q → wpAny (model X.prog X.w) X.A (isTrue e X.env whole) (TP X pins σ Q) X.xe s
theorem PW.pt {X : Cx} {e : Expr} {t : TT} (h : PW X e t) : PT X e t := h _

def PA (X : Cx) (es : List Expr) (t : TA) : Prop :=
  ∀ (pos : Pos) (pins : List (Addr × Obj)) (s : Shared) (σ : St) (H : Hp) (Q : List V → Hp → Prop), Inv X pins σ H s → t σ H Q → wpAny (model X.prog X.w) X.A (spliced (backTo pos (starEach es X.env))) (AP X pins σ Q) X.xe s
def PS (X : Cx) (st : Stmt) (t : TS) : Prop :=
  ∀ (pins : List (Addr × Obj)) (s : Shared) (σ : St) (H : Hp) (D : Ends), Inv X pins σ H s → t D σ H → wpAny (model X.prog X.w) X.A (exec st X.env) (SP X pins D) X.xe s
def PSs (X : Cx) (st : List Stmt) (t : TS) : Prop :=
  ∀ (pins : List (Addr × Obj)) (s : Shared) (σ : St) (H : Hp) (D : Ends), Inv X pins σ H s → t D σ H → wpAny (model X.prog X.w) X.A (execs st X.env) (SP X pins D) X.xe s

theorem thn {α : Type} {t : Sem α} {Q Q' : α → Shared → Prop} {M : Model} {A : Around} {E : Value → Shared → Prop} {s : Shared} (h : wpAny M A t Q E s) (hQ : ∀ a s, Q a s → Q' a s) : wpAny M A t Q' E s := wpAny_mono h hQ fun _ _ x => x
end L2

namespace L2
open PySem PySem.Spec PyProof.Rows
section
variable {X : Cx}


def tVar (i : Nat) : TE := fun σ H Q => ∃ v, σ[i]? = some (some v) ∧ Q v H
def tC (v : V) : TE := fun _ H Q => Q v H
theorem pe_var {i : Nat} {x : Str} {pos : Pos} (hN : X.N[i]? = some x) (hv : Vis X.env.scope x) (hd : (x == ("__debug__" : Str)) = false := by decide) (hcd : (x == ("__classdict__" : Str)) = false := by decide) : PE X (.Name x pos) (tVar i) := by
  intro pins s σ H Q I h
  obtain ⟨v, e, h⟩ := h
  obtain ⟨m, hn, hl⟩ := I.loc
  obtain ⟨u, r, l⟩ := hl i x v hN e hv
  have fin : EP X pins σ Q u s := ⟨v, H, I, r, h⟩
  rcases l with ⟨hk, hm⟩ | ⟨hk, c, hc, hcell⟩
  · exact wpAny_Name (wpAny_loadName_local I.ok.kind hk hn hm fin) hd
  · rcases hk with hk | hk
    · exact wpAny_Name (wpAny_loadName_cell I.ok.kind hk hc hcell fin) hd
    · exact wpAny_Name (wpAny_loadName_free I.ok.kind hk hc hcell fin hcd) hd
theorem pe_int {i j pos} : PE X (.Constant (.int i) j pos) (tC (.int i)) := fun _ _ _ H _ I h => wpAny_Constant_int ⟨.int i, H, I.tok _, ⟨_, rfl⟩, h⟩
theorem pe_bl {b j pos} : PE X (.Constant (.bool b) j pos) (tC (.bl b)) := fun _ _ _ H _ I h => Constant_bool ⟨.bl b, H, I, rfl, h⟩
theorem pe_non {j pos} : PE X (.Constant .none j pos) (tC .non) := fun _ _ _ H _ I h => Constant_none ⟨.non, H, I, rfl, h⟩
theorem pe_str {x j pos} : PE X (.Constant (.str x) j pos) (tC (.str x)) := fun _ _ _ H _ I h => Calls.Constant_str ⟨.str x, H, I.tok _, ⟨_, rfl⟩, h⟩


def Gl (X : Cx) (x : Str) : Prop := X.env.kindOf x = some .globalImplicit
theorem ld_glob {E : Value → Shared → Prop} {pins : List (Addr × Obj)} {s : Shared} {σ : St} {H : Hp} {x : Str} {u : Value} {pos : Pos} {Q : Value → Shared → Prop} (I : Inv X pins σ H s) (hg : Gl X x) (hm : X.mg x = some u) (h : Q u s)
    (hd : (x == ("__debug__" : Str)) = false := by decide) : wpAny (model X.prog X.w) X.A (eval (.Name x pos) X.env) Q E s :=
  Calls.Name_function_global I.ok.kind hg (Calls.loadGlobal_global (by rw [I.ok.glob]; exact I.mod.glob.keeps I.bk) hm h) hd
theorem ld_blt {E : Value → Shared → Prop} {pins : List (Addr × Obj)} {s : Shared} {σ : St} {H : Hp} {x : Str} {u : Value} {pos : Pos} {Q : Value → Shared → Prop} (I : Inv X pins σ H s) (hg : Gl X x) (hm : X.mg x = none) (hv : bootBuiltins x = some u) (h : Q u s)
    (hn : x ≠ "__name__" := by decide) (hd : (x == ("__debug__" : Str)) = false := by decide) : wpAny (model X.prog X.w) X.A (eval (.Name x pos) X.env) Q E s := by
  obtain ⟨mb, h1, h2⟩ := I.mod.blt
  exact Calls.Name_function_global I.ok.kind hg (Calls.loadGlobal_builtin (by rw [I.ok.glob]; exact I.mod.glob.keeps I.bk) hm (by rw [I.ok.blt]; exact h1.keeps I.bk) ((h2 x hn).trans hv) h) hd

theorem pe_glob {x : Str} {v : V} {u : Value} {pos : Pos} (hg : Gl X x) (hm : X.mg x = some u) (r : RelV v u) (hd : (x == ("__debug__" : Str)) = false := by decide) : PE X (.Name x pos) (tC v) :=
  fun _ _ _ H _ I h => ld_glob I hg hm ⟨v, H, I, r, h⟩ hd
theorem pe_bltn {x : Str} {v : V} {u : Value} {pos : Pos} (hg : Gl X x) (hm : X.mg x = none) (hv : bootBuiltins x = some u) (r : RelV v u) (hn : x ≠ "__name__" := by decide) (hd : (x == ("__debug__" : Str)) = false := by decide) : PE X (.Name x pos) (tC v) :=
  fun _ _ _ H _ I h => ld_blt I hg hm hv ⟨v, H, I, r, h⟩ hn hd



def t2I (ta tb : TE) (k : Int → Int → Hp → Prop) : St → Hp → Prop := fun σ H => ta σ H fun x H1 => tb σ H1 fun y H2 => ∃ i j, x = .int i ∧ y = .int j ∧ k i j H2
def tAdd (ta tb : TE) : TE := fun σ H Q => t2I ta tb (fun i j H2 => Q (.int (i + j)) H2) σ H
def tSub (ta tb : TE) : TE := fun σ H Q => t2I ta tb (fun i j H2 => Q (.int (i - j)) H2) σ H

def tMul (ta tb : TE) : TE := fun σ H Q => t2I ta tb (fun i j H2 => (-(2 ^ 64) < i ∧ i < 2 ^ 64) ∧ Q (.int (i * j)) H2) σ H
variable {a b : Expr} {ta tb : TE} {pos : Pos}
def PC (X : Cx) (op : CmpOp) (a b : Expr) (t : TE) : Prop :=
  ∀ (pins : List (Addr × Obj)) (s : Shared) (σ : St) (H : Hp) (Q : VK), Inv X pins σ H s → t σ H Q →
    wpAny (model X.prog X.w) X.A (eval a X.env) (fun v s₁ => wpAny (model X.prog X.w) X.A (eval b X.env) (fun u s₂ => wpAny (model X.prog X.w) X.A (compareOp op v u) (EP X pins σ Q) X.xe s₂) X.xe s₁) X.xe s
theorem nobehind (b : Expr) {op : CmpOp} (h : op ≠ .In) (h2 : op ≠ .NotIn) : behindInMarks op b = false := by
  have e1 : (op == CmpOp.In) = false := by cases op <;> first | rfl | exact absurd rfl h
  have e2 : (op == CmpOp.NotIn) = false := by cases op <;> first | rfl | exact absurd rfl h2
  cases b <;> simp [behindInMarks, e1, e2]
def tCmp (p : Int → Int → Bool) (ta tb : TE) : TE := fun σ H Q => t2I ta tb (fun i j H2 => Q (.bl (p i j)) H2) σ H
abbrev tLt : TE → TE → TE := tCmp fun i j => decide (i < j)
abbrev tLe : TE → TE → TE := tCmp fun i j => decide (i ≤ j)
abbrev tGt : TE → TE → TE := tCmp fun i j => decide (j < i)
abbrev tGe : TE → TE → TE := tCmp fun i j => decide (j ≤ i)
abbrev tEqI : TE → TE → TE := tCmp fun i j => decide (i = j)
abbrev tNeI : TE → TE → TE := tCmp fun i j => !decide (i = j)

def tIsN (ta : TE) : TE := fun σ H Q => ta σ H fun x H1 => Q (.bl (decide (x = .non))) H1
def tNotN (ta : TE) : TE := fun σ H Q => ta σ H fun x H1 => Q (.bl (!decide (x = .non))) H1
def tB (t : TE) : TT := fun σ H Q => t σ H fun x H1 => ∃ c, x = .bl c ∧ Q c H1
theorem pt_cmp {op : CmpOp} {t : TE} (h : PC X op a b t) (h1 : behindInMarks op b = false := by first | exact nobehind _ (by decide) (by decide) | rfl) : PT X (.Compare a [op] [b] pos) (tB t) := by
  intro pins s σ H Q I hw
  refine wpAny_isTrue_Compare1 (thn (h pins s σ H _ I hw) fun v s1 h1 => thn h1 fun u s2 h2 => thn h2 fun c s3 ⟨x, H1, I1, r1, q1⟩ => ?_) h1
  obtain ⟨d, rfl, q⟩ := q1
  cases r1
  exact wpAny_truthy_bool ⟨H1, I1, q⟩

theorem pt_val {e : Expr} {t : TE} (h : PE X e t) (he : ∀ whole, isTrue e X.env whole = (do let v ← whole; standAt e.pos; holding [v] (truthy v)) := by intro _; rfl) : PT X e (tB t) := by
  intro pins s σ H Q I hw
  refine isTrue_plain (thn (h pins s σ H _ I hw) fun v s1 ⟨x, H1, I1, r1, q1⟩ => ?_) (he _)
  obtain ⟨d, rfl, q⟩ := q1
  cases r1
  exact wpAny_truthy_bool ⟨H1, I1, q⟩


variable {tA tB' : TT} {rest : List Expr}
def tAnd (t u : TT) : TT := fun σ H Q => t σ H fun c H1 => if c = true then u σ H1 Q else Q false H1
def tOr (t u : TT) : TT := fun σ H Q => t σ H fun c H1 => if c = true then Q true H1 else u σ H1 Q
def tNot (t : TT) : TT := fun σ H Q => t σ H fun c H1 => Q (!c) H1
theorem pw_and1 (ha : PT X a tA) : PW X (.BoolOp .And [a] pos) tA := by
  intro wh pins s σ H Q I h
  refine isTrue_and (thn (ha pins s σ H Q I h) fun c s1 e => ?_)
  cases c with
  | true => exact isTrue_and_nil e
  | false => exact e
theorem pw_or1 (ha : PT X a tA) : PW X (.BoolOp .Or [a] pos) tA := by
  intro wh pins s σ H Q I h
  refine isTrue_or (thn (ha pins s σ H Q I h) fun c s1 e => ?_)
  cases c with
  | false => exact isTrue_or_nil e
  | true => exact e
theorem pw_and (ha : PT X a tA) (hb : PW X (.BoolOp .And (b :: rest) pos) tB') : PW X (.BoolOp .And (a :: b :: rest) pos) (tAnd tA tB') := by
  intro wh pins s σ H Q I h
  refine isTrue_and (thn (ha pins s σ H _ I h) fun c s1 ⟨H1, I1, q1⟩ => ?_)
  cases c with
  | true => exact hb wh pins s1 σ H1 Q I1 q1
  | false => exact ⟨H1, I1, q1⟩
theorem pw_or (ha : PT X a tA) (hb : PW X (.BoolOp .Or (b :: rest) pos) tB') : PW X (.BoolOp .Or (a :: b :: rest) pos) (tOr tA tB') := by
  intro wh pins s σ H Q I h
  refine isTrue_or (thn (ha pins s σ H _ I h) fun c s1 ⟨H1, I1, q1⟩ => ?_)
  cases c with
  | true => exact ⟨H1, I1, q1⟩
  | false => exact hb wh pins s1 σ H1 Q I1 q1
theorem pt_not (ha : PT X a tA) : PT X (.UnaryOp .Not a pos) (tNot tA) := by
  intro pins s σ H Q I h
  exact isTrue_not (ha pins s σ H (fun c H1 => Q (!c) H1) I h)

def tAndV (ta tb : TE) : TE := fun σ H Q => ta σ H fun x H1 => ∃ c, x = .bl c ∧ if c = true then tb σ H1 Q else Q (.bl false) H1
def tOrV (ta tb : TE) : TE := fun σ H Q => ta σ H fun x H1 => ∃ c, x = .bl c ∧ if c = true then Q (.bl true) H1 else tb σ H1 Q
def tNotV (ta : TE) : TE := fun σ H Q => ta σ H fun x H1 => ∃ c, x = .bl c ∧ Q (.bl (!c)) H1
theorem pe_one {op} {t : TE} (h : PE X a t) : PE X (.BoolOp op [a] pos) t := fun pins s σ H Q I hw => BoolOp_one (h pins s σ H Q I hw)
theorem pe_and (ha : PE X a ta) (hb : PE X (.BoolOp .And (b :: rest) pos) tb) : PE X (.BoolOp .And (a :: b :: rest) pos) (tAndV ta tb) := by
  intro pins s σ H Q I h
  refine BoolOp_and (thn (ha pins s σ H _ I h) fun v s1 ⟨x, H1, I1, r1, q1⟩ => ?_)
  obtain ⟨c, rfl, q1⟩ := q1
  cases r1
  refine wpAny_truthy_bool ?_
  cases c with
  | true => exact hb pins s1 σ H1 Q I1 q1
  | false => exact ⟨.bl false, H1, I1, rfl, q1⟩
theorem pe_or (ha : PE X a ta) (hb : PE X (.BoolOp .Or (b :: rest) pos) tb) : PE X (.BoolOp .Or (a :: b :: rest) pos) (tOrV ta tb) := by
  intro pins s σ H Q I h
  refine BoolOp_or (thn (ha pins s σ H _ I h) fun v s1 ⟨x, H1, I1, r1, q1⟩ => ?_)
  obtain ⟨c, rfl, q1⟩ := q1
  cases r1
  refine wpAny_truthy_bool ?_
  cases c with
  | false => exact hb pins s1 σ H1 Q I1 q1
  | true => exact ⟨.bl true, H1, I1, rfl, q1⟩
theorem pe_not (ha : PE X a ta) : PE X (.UnaryOp .Not a pos) (tNotV ta) := by
  intro pins s σ H Q I h
  refine UnaryOp_ (thn (ha pins s σ H _ I h) fun v s1 ⟨x, H1, I1, r1, q1⟩ => ?_)
  obtain ⟨c, rfl, q1⟩ := q1
  cases r1
  exact not_of (wpAny_truthy_bool ⟨.bl (!c), H1, I1, rfl, q1⟩)

def tIf (t : TT) (ta tb : TE) : TE := fun σ H Q => t σ H fun c H1 => if c = true then ta σ H1 Q else tb σ H1 Q
end
end L2

namespace L2
open PySem PySem.Spec PyProof.Rows


def SqL (K : PySem.W.Frag) (H : Hp) (a : Addr) (xs : List V) : Prop :=
  Rd H a (.lst xs) ∨
    ∃ (o : Obj) (its : Array Value) (n : Nat), K.lookup a = some o ∧ o.cls = .type "list" ∧ o.dict = none ∧ o.data = .seq its n ∧ its.size ≤ sizeLine ∧ Vals xs its.toList
def SqT (K : PySem.W.Frag) (H : Hp) (a : Addr) (xs : List V) : Prop :=
  Rd H a (.tup xs) ∨
    ∃ (o : Obj) (its : Array Value) (n : Nat), K.lookup a = some o ∧ o.cls = .type "tuple" ∧ o.data = .seq its n ∧ its.size ≤ sizeLine ∧ Vals xs its.toList
def absV : Value → Option V
  | .none => some .non
  | .bool b => some (.bl b)
  | .int i _ => some (.int i)
  | .str x _ => some (.str x)
  | .bytes b _ => some (.byt b)
  | .float b _ => some (.flt b)
  | .ref a => some (.ref a)
  | .type n => some (.ty n)
  | _ => none
theorem RelV.abs {x : V} {u : Value} (r : RelV x u) : absV u = some x := by
  cases x with
  | non => cases r; rfl
  | bl _ => cases r; rfl
  | int _ => obtain ⟨t, rfl⟩ := r; rfl
  | str _ => obtain ⟨t, rfl⟩ := r; rfl
  | byt _ => obtain ⟨t, rfl⟩ := r; rfl
  | flt _ => obtain ⟨t, rfl⟩ := r; rfl
  | ref _ => cases r; rfl
  | ty _ => cases r; rfl
theorem RelV.inj {x y : V} {u : Value} (r : RelV x u) (q : RelV y u) : x = y := Option.some.inj (r.abs.symm.trans q.abs)
theorem Vals.inj : ∀ {xs ys : List V} {us : List Value}, Vals xs us → Vals ys us → xs = ys
  | _, _, _, .nil, .nil => rfl
  | _, _, _, .cons r t, .cons r' t' => by rw [r.inj r', Vals.inj t t']
section
variable {X : Cx} {pins : List (Addr × Obj)} {σ : St} {H : Hp} {s : Shared} {a : Addr} {xs ys : List V}
theorem SqL.of {K : PySem.W.Frag} (h : H a = some (.lst xs)) : SqL K H a xs := .inl (.inl h)
theorem SqT.of {K : PySem.W.Frag} (h : H a = some (.tup xs)) : SqT K H a xs := .inl (.inl h)
theorem Inv.list (I : Inv X pins σ H s) (h : SqL X.K H a xs) : ∃ its : List Value, Vals xs its ∧ PlainL s.heap a its.toArray ∧ xs.length ≤ sizeLine := by
  rcases h with h | ⟨o, its, n, hk, hc, hd, hs, hz, r⟩
  · obtain ⟨z, its, n, r, e⟩ := h.ok I.hok
    exact ⟨its, r, ⟨_, n, e, rfl, rfl, rfl⟩, z⟩
  · refine ⟨its.toList, r, ⟨o, n, I.kIn a o hk, hc, hd, by simpa using hs⟩, ?_⟩
    have e := r.length
    simp only [Array.length_toList] at e
    omega
theorem Inv.tuple (I : Inv X pins σ H s) (h : SqT X.K H a xs) : ∃ its : List Value, Vals xs its ∧ IsTup s.heap a its.toArray ∧ xs.length ≤ sizeLine := by
  rcases h with h | ⟨o, its, n, hk, hc, hs, hz, r⟩
  · obtain ⟨z, its, r, p⟩ := h.ok I.hok
    exact ⟨its, r, p, z⟩
  · refine ⟨its.toList, r, ⟨o, I.kIn a o hk, hc, n, by simpa using hs⟩, ?_⟩
    have e := r.length
    simp only [Array.length_toList] at e
    omega
theorem Inv.list_inj (I : Inv X pins σ H s) (h : SqL X.K H a xs) (h' : SqL X.K H a ys) : xs = ys := by
  obtain ⟨its, r, ⟨o, n, e, _, _, d⟩, _⟩ := I.list h
  obtain ⟨its', r', ⟨o', n', e', _, _, d'⟩, _⟩ := I.list h'
  rw [e] at e'; cases e'
  rw [d] at d'
  injection d' with d1 _
  have : its = its' := by simpa using congrArg Array.toList d1
  subst this
  exact r.inj r'
theorem Inv.tuple_inj (I : Inv X pins σ H s) (h : SqT X.K H a xs) (h' : SqT X.K H a ys) : xs = ys := by
  obtain ⟨its, r, ⟨o, e, _, n, d⟩, _⟩ := I.tuple h
  obtain ⟨its', r', ⟨o', e', _, n', d'⟩, _⟩ := I.tuple h'
  rw [e] at e'; cases e'
  rw [d] at d'
  injection d' with d1 _
  have : its = its' := by simpa using congrArg Array.toList d1
  subst this
  exact r.inj r'
end


abbrev Cx.wish (X : Cx) (E : Value → Shared → Prop) : Cx := { X with xe := E }

abbrev Cx.nox (X : Cx) : Cx := X.wish fun _ _ => False
theorem Cx.Ok.wish {X : Cx} (ok : X.Ok) (E : Value → Shared → Prop) : (X.wish E).Ok :=
  ⟨ok.mod, ok.kind, ok.glob, ok.blt, ok.above, ok.inj, ok.has, ok.cab, ok.hd, ok.frames, ok.stk, ok.exf, ok.bs, ok.bsz, ok.noex, ok.exfs, ok.funs, ok.frf⟩
theorem Cx.Ok.unwish {X : Cx} {E : Value → Shared → Prop} (ok : (X.wish E).Ok) : X.Ok :=
  ⟨ok.mod, ok.kind, ok.glob, ok.blt, ok.above, ok.inj, ok.has, ok.cab, ok.hd, ok.frames, ok.stk, ok.exf, ok.bs, ok.bsz, ok.noex, ok.exfs, ok.funs, ok.frf⟩
section
variable {X : Cx} {pins : List (Addr × Obj)} {σ : St} {H : Hp} {s : Shared} {E : Value → Shared → Prop}
theorem Inv.wish (I : Inv X pins σ H s) (E : Value → Shared → Prop) : Inv (X.wish E) pins σ H s := ⟨I.ok.wish E, I.os, I.bare, I.base, I.loc, I.cell, I.free, I.freeC, I.pin, I.hok, I.len⟩
theorem Inv.unwish (I : Inv (X.wish E) pins σ H s) : Inv X pins σ H s := ⟨I.ok.unwish, I.os, I.bare, I.base, I.loc, I.cell, I.free, I.freeC, I.pin, I.hok, I.len⟩
theorem SP.unwish {D : Ends} {f : Flow} {s' : Shared} (h : SP (X.wish E) pins D f s') : SP X pins D f s' := by
  cases f with
  | next => obtain ⟨σ', H', I, q⟩ := h; exact ⟨σ', H', I.unwish, q⟩
  | brk => obtain ⟨σ', H', I, q⟩ := h; exact ⟨σ', H', I.unwish, q⟩
  | cont => obtain ⟨σ', H', I, q⟩ := h; exact ⟨σ', H', I.unwish, q⟩
  | ret u => obtain ⟨v, σ', H', I, r, q⟩ := h; exact ⟨v, σ', H', I.unwish, r, q⟩
theorem PE.nox {e : Expr} {t : TE} (h : PE X.nox e t) : PE X e t := fun pins s σ H Q I hw =>
  wpAny_mono (h pins s σ H Q (I.wish _) hw) (fun _ _ ⟨v, H', I', r, q⟩ => ⟨v, H', I'.unwish, r, q⟩) fun _ _ z => False.elim z
theorem PT.nox {e : Expr} {t : TT} (h : PT X.nox e t) : PT X e t := fun pins s σ H Q I hw =>
  wpAny_mono (h pins s σ H Q (I.wish _) hw) (fun _ _ ⟨H', I', q⟩ => ⟨H', I'.unwish, q⟩) fun _ _ z => False.elim z
theorem PSs.nox {st : List Stmt} {t : TS} (h : PSs X.nox st t) : PSs X st t := fun pins s σ H D I hw =>
  wpAny_mono (h pins s σ H D (I.wish _) hw) (fun _ _ q => q.unwish) fun _ _ z => False.elim z
end


section
variable {X : Cx} {st : Stmt} {rest : List Stmt} {t u : TS} {e : Expr} {te : TE} {pos : Pos}
def tNext : TS := fun D σ H => D.nx σ H
def tSeq (t u : TS) : TS := fun D σ H => t { D with nx := u D } σ H
theorem pss_nil : PSs X [] tNext := fun _ _ σ H _ I h => wpAny_execs_nil ⟨σ, H, I, h⟩
theorem pss_cons (h1 : PS X st t) (h2 : PSs X rest u) : PSs X (st :: rest) (tSeq t u) := by
  intro pins s σ H D I h
  refine wpAny_execs_cons (thn (h1 pins s σ H { D with nx := u D } I h) fun f s1 q => ?_)
  cases f with
  | next =>
    obtain ⟨σ', H', I', q⟩ := q
    exact h2 pins s1 σ' H' D I' q
  | ret v => exact q
  | brk => exact q
  | cont => exact q
theorem pss_one (h1 : PS X st t) : PSs X [st] t := by
  intro pins s σ H D I h
  refine wpAny_execs_cons (thn (h1 pins s σ H D I h) fun f s1 q => ?_)
  cases f with
  | next => exact wpAny_execs_nil q
  | ret v => exact q
  | brk => exact q
  | cont => exact q
def tBreak : TS := fun D σ H => D.bk σ H
def tCont : TS := fun D σ H => D.ct σ H
theorem Inv.quiet {pins : List (Addr × Obj)} {σ : St} {H : Hp} {s : Shared} (I : Inv X pins σ H s) : interactive X.env = false := by simp [interactive, I.ok.kind]

def tDrop (te : TE) : TS := fun D σ H => te σ H fun _ H1 => D.nx σ H1
theorem ps_expr (he : PE X e te) (hs : swapsWith e none pos.line X.env = pure false := by rfl) : PS X (.Expr e pos) (tDrop te) := by
  intro pins s σ H D I h
  exact wpAny_Expr_any (thn (he pins s σ H _ I h) fun v s1 ⟨x, H1, I1, r1, q1⟩ => ⟨σ, H1, I1, q1⟩) I.quiet hs
def tRet (te : TE) : TS := fun D σ H => te σ H D.rt
theorem ps_ret (he : PE X e te) : PS X (.Return (some e) pos) (tRet te) := by
  intro pins s σ H D I h
  exact wpAny_Return_some (thn (he pins s σ H _ I h) fun v s1 ⟨x, H1, I1, r1, q1⟩ => ⟨x, σ, H1, I1, r1, q1⟩)
def tRetN : TS := fun D _ H => D.rt .non H
def tIfS (c : TT) (t u : TS) : TS := fun D σ H => c σ H fun b H1 => if b = true then t D σ H1 else u D σ H1
theorem ps_if {c : Expr} {a b : List Stmt} {tc : TT} (hc : PT X c tc) (ha : PSs X a t) (hb : PSs X b u) : PS X (.If c a b pos) (tIfS tc t u) := by
  intro pins s σ H D I h
  refine wpAny_If (thn (hc pins s σ H _ I h) fun d s1 ⟨H1, I1, q1⟩ => ?_)
  cases d with
  | true => exact ha pins s1 σ H1 D I1 q1
  | false => exact hb pins s1 σ H1 D I1 q1

def tNever : TS := fun _ _ _ => False
end


abbrev TG := V → St → Hp → (St → Hp → Prop) → Prop
abbrev TGs := List V → St → Hp → (St → Hp → Prop) → Prop
def PG (X : Cx) (target : Expr) (t : TG) : Prop :=
  ∀ (pins : List (Addr × Obj)) (s : Shared) (σ : St) (H : Hp) (v : V) (u : Value) (Q : St → Hp → Prop), Inv X pins σ H s → RelV v u → t v σ H Q →
    wpAny (model X.prog X.w) X.A (assign target X.env u) (fun _ s' => ∃ σ' H', Inv X pins σ' H' s' ∧ Q σ' H') X.xe s

def PGs (X : Cx) (ts : List Expr) (t : TGs) : Prop :=
  ∀ (pins : List (Addr × Obj)) (s : Shared) (σ : St) (H : Hp) (vs : List V) (us : List Value) (Q : St → Hp → Prop), Inv X pins σ H s → Vals vs us → t vs σ H Q →
    wpAny (model X.prog X.w) X.A (assignInOrder ((assignEach ts X.env).map (·.2)) us) (fun _ s' => ∃ σ' H', Inv X pins σ' H' s' ∧ Q σ' H') X.xe s

abbrev TSet := V → V → V → Hp → (Hp → Prop) → Prop
def PSet (X : Cx) (t : TSet) : Prop :=
  ∀ (pins : List (Addr × Obj)) (s : Shared) (σ : St) (H : Hp) (o i v : V) (ov iv u : Value) (Q : Hp → Prop), Inv X pins σ H s → RelV o ov → RelV i iv → RelV v u → t o i v H Q →
    wpAny (model X.prog X.w) X.A (setItem ov iv u) (fun _ s' => ∃ H', Inv X pins σ H' s' ∧ Q H') X.xe s

abbrev TIp := V → V → Hp → VK → Prop
def PIp (X : Cx) (op : Operator) (t : TIp) : Prop :=
  ∀ (pins : List (Addr × Obj)) (s : Shared) (σ : St) (H : Hp) (x y : V) (v u : Value) (Q : VK), Inv X pins σ H s → RelV x v → RelV y u → t x y H Q →
    wpAny (model X.prog X.w) X.A (inplaceOp op v u) (EP X pins σ Q) X.xe s
section
variable {X : Cx} {pos : Pos}
def gName (i : Nat) : TG := fun v σ H Q => Q (σ.set i (some v)) H
theorem pg_name {i : Nat} {x : Str} (hN : X.N.Nodup) (hi : X.N[i]? = some x) (hx : Loc X.env.scope x) (hf : X.fn x = true ∨ X.env.scope.names.lookup x = some .local := by first | exact .inl rfl | exact .inr rfl | assumption) : PG X (.Name x pos) (gName i) := by
  intro pins s σ H v u Q I r h
  exact wpAny_assign_Name (store_ok I hN hi hx r (fun s' I' => ⟨_, H, I', h⟩) hf)
def gNil : TGs := fun vs σ H Q => vs = [] ∧ Q σ H
def gCons (t : TG) (u : TGs) : TGs := fun vs σ H Q => ∃ v r, vs = v :: r ∧ t v σ H fun σ' H' => u r σ' H' Q
def gTup (K : PySem.W.Frag) (n : Nat) (t : TGs) : TG := fun v σ H Q => ∃ a xs, v = .ref a ∧ SqT K H a xs ∧ xs.length = n ∧ t xs σ H Q
def gSub (to ti : TE) (t : TSet) : TG := fun v σ H Q => to σ H fun o H1 => ti σ H1 fun i H2 => t o i v H2 fun H3 => Q σ H3
theorem pg_sub {o i : Expr} {to ti : TE} {t : TSet} (ho : PE X o to) (hi : PE X i ti) (hs : PSet X t)
    (ha : ∀ v, assign (.Subscript o i pos) X.env v = (do
      let ov ← holding [v] (eval o X.env)
      let iv ← holding [v, ov] (eval i X.env)
      standAt pos
      holding [v, ov, iv] (setItem ov iv v)
      release [v, ov, iv] []) := by intro _; rfl) : PG X (.Subscript o i pos) (gSub to ti t) := by
  intro pins s σ H v u Q I r h
  rw [ha]
  refine wpAny_bind (wpAny_holding (thn (ho pins s σ H _ I h) fun ov s1 ⟨x, H1, I1, r1, q1⟩ => ?_))
  refine wpAny_bind (wpAny_holding (thn (hi pins s1 σ H1 _ I1 q1) fun iv s2 ⟨y, H2, I2, r2, q2⟩ => ?_))
  refine wpAny_bind (wpAny_standAt (wpAny_bind (wpAny_holding (thn (hs pins s2 σ H2 x y v ov iv u _ I2 r1 r2 r q2) fun _ s3 ⟨H3, I3, q3⟩ => ?_))))
  exact wpAny_release ⟨σ, H3, I3, q3⟩

def tAsg (te : TE) (g : TG) : TS := fun D σ H => te σ H fun x H1 => g x σ H1 D.nx
theorem ps_asg {tg e : Expr} {te : TE} {g : TG} (he : PE X e te) (hg : PG X tg g) (hs : swapsWithSole [tg] e pos.line X.env = pure false := by rfl) (hw : swappedStores [tg] e X.env = pure none := by rfl)
    (h1 : (assignEach [tg] X.env).map (·.2) = [assign tg X.env] := by rfl) : PS X (.Assign [tg] e pos) (tAsg te g) := by
  intro pins s σ H D I h
  refine wpAny_Assign_stores (thn (he pins s σ H _ I h) fun v s1 ⟨x, H1, I1, r1, q1⟩ => ?_) hs hw
  rw [h1]
  exact thn (hg pins s1 σ H1 x v _ I1 r1 q1) fun _ s2 q => q

theorem ps_set {i : Nat} {x : Str} {e : Expr} {te : TE} {pos' : Pos} (hN : X.N.Nodup) (hi : X.N[i]? = some x) (hx : Loc X.env.scope x) (he : PE X e te) (hs : swapsWith e (some (.Name x pos')) pos.line X.env = pure false := by rfl) (hf : X.fn x = true ∨ X.env.scope.names.lookup x = some .local := by first | exact .inl rfl | exact .inr rfl | assumption) :
    PS X (.Assign [.Name x pos'] e pos) (tAsg te (gName i)) := by
  intro pins s σ H D I h
  refine wpAny_Assign_Name (thn (he pins s σ H _ I h) fun v s1 ⟨y, H1, I1, r1, q1⟩ => ?_) hs
  exact store_ok I1 hN hi hx r1 (fun s2 I2 => ⟨_, H1, I2, q1⟩) hf

def tPar (i j : Nat) (ta : TA) : TS := fun D σ H => ta σ H fun vs H1 => ∃ v w, vs = [v, w] ∧ D.nx ((σ.set i (some v)).set j (some w)) H1
def tAug (i : Nat) (te : TE) (ti : TIp) : TS := fun D σ H => ∃ x, σ[i]? = some (some x) ∧ te σ H fun y H1 => ti x y H1 fun z H2 => D.nx (σ.set i (some z)) H2
def tAugS (to ti te : TE) (tget : V → V → Hp → VK → Prop) (tip : TIp) (tset : TSet) : TS := fun D σ H => to σ H fun o H1 => ti σ H1 fun i H2 => tget o i H2 fun x H3 => te σ H3 fun y H4 => tip x y H4 fun z H5 => tset o i z H5 fun H6 => D.nx σ H6

def PGet (X : Cx) (t : V → V → Hp → VK → Prop) : Prop :=
  ∀ (pins : List (Addr × Obj)) (s : Shared) (σ : St) (H : Hp) (o i : V) (ov iv : Value) (Q : VK), Inv X pins σ H s → RelV o ov → RelV i iv → t o i H Q →
    wpAny (model X.prog X.w) X.A (getItem ov iv) (EP X pins σ Q) X.xe s
def ipI (f : Int → Int → Int) : TIp := fun x y H Q => ∃ i j, x = .int i ∧ y = .int j ∧ Q (.int (f i j)) H
end


section
variable {X : Cx} {pos : Pos}

def tWhile (c : TT) (tb : TS) : TS := fun D σ H => ∃ W : Nat → St → Hp → Prop, (∃ m, W m σ H) ∧ ∀ m σ H, W m σ H →
  c σ H fun b H1 => if b = true then ∃ N : St → Hp → Prop, (∀ σ' H', N σ' H' → ∃ m', m' < m ∧ W m' σ' H') ∧ tb { D with nx := N, ct := N, bk := D.nx } σ H1 else D.nx σ H1
theorem ps_while {c : Expr} {body : List Stmt} {tc : TT} {tb : TS} (hp : PassesOwn (model X.prog X.w) X.A X.env X.xe) (hc : PT X c tc) (hb : PSs X body tb) : PS X (.While c body [] pos) (tWhile tc tb) := by
  intro pins s σ H D I h
  obtain ⟨W, ⟨m0, w0⟩, turn⟩ := h
  refine wpAny_While (codeAny_whileLoop (fun n s' => ∃ σ' H', Inv X pins σ' H' s' ∧ W n σ' H') ?_ m0 ⟨σ, H, I, w0⟩)
  rintro n s1 ⟨σ1, H1, I1, w1⟩
  refine wpAny_passesOwn hp (thn (hc pins s1 σ1 H1 _ I1 (turn n σ1 H1 w1)) fun b s2 ⟨H2, I2, q2⟩ => ?_)
  cases b with
  | true =>
    obtain ⟨N, hN, q2⟩ := q2
    rw [if_pos rfl]
    refine wpAny_passesOwn hp (thn (hb pins s2 σ1 H2 _ I2 q2) fun f s3 q3 => ?_)
    cases f with
    | next =>
      obtain ⟨σ3, H3, I3, n3⟩ := q3
      obtain ⟨m', hm, w3⟩ := hN σ3 H3 n3
      exact ⟨m', hm, σ3, H3, I3, w3⟩
    | cont =>
      obtain ⟨σ3, H3, I3, n3⟩ := q3
      obtain ⟨m', hm, w3⟩ := hN σ3 H3 n3
      exact ⟨m', hm, σ3, H3, I3, w3⟩
    | brk => exact q3
    | ret v => exact q3
  | false =>
    rw [if_neg Bool.false_ne_true]
    exact wpAny_execs_nil ⟨σ1, H2, I2, q2⟩
end



structure It where
  go : Nat → Hp → Prop
  yld : Nat → Hp → V → Hp → Prop
  stop : Nat → Hp → Prop

def FpOk (X : Cx) (pins : List (Addr × Obj)) (H : Hp) (b : Addr) : Prop :=
  H b = none ∧ b ≠ X.env.locals ∧ b ∉ X.fs ∧ (b ∈ X.ex ∨ X.s₀.heap.objs.size ≤ b) ∧ (∀ x c, X.env.cells.lookup x = some c → c ≠ b) ∧ ∀ p ∈ X.pn ++ pins, p.1 ≠ b
theorem Inv.fpOk {X : Cx} {pins : List (Addr × Obj)} {σ : St} {H H' : Hp} {s : Shared} {b : Addr} (I : Inv X pins σ H s) (hb : s.heap.objs.size ≤ b) (hn : H' b = none) : FpOk X pins H' b := by
  refine ⟨hn, Nat.ne_of_gt (Nat.lt_of_lt_of_le I.lt hb), I.nofs hb, .inr (Nat.le_trans I.sz hb), fun x c e z => ?_, fun p hp z => ?_⟩
  · obtain ⟨v, q⟩ := I.cell x c e
    exact absurd (Nat.lt_of_lt_of_le q.lt (by rw [z]; exact hb)) (Nat.lt_irrefl _)
  · exact absurd (Nat.lt_of_lt_of_le (Heap.lt_size (I.pin p hp).1) (by rw [z]; exact hb)) (Nat.lt_irrefl _)
structure Turn (P : Program) (w : World) (K : PySem.W.Frag) (tg : Expr) (J : It) (fp : List Addr) (it : Addr) (tn : Nat → Heap → Prop) : Prop where
  mem : it ∈ fp
  obj : ∀ i h, tn i h → ∀ b ∈ fp, ∃ o, h.get? b = some o ∧ ∀ v, o.data ≠ .cell v
  keep : ∀ i h h', tn i h → (∀ b ∈ fp, ∀ o, h.get? b = some o → h'.get? b = some o) → tn i h'
  item : ∀ (X : Cx), X.prog = P → X.w = w → X.K = K → X.calm = true → ∀ (i : Nat) (pins : List (Addr × Obj)) (s : Shared) (σ : St) (H : Hp) (E : Value → Shared → Prop), Inv X pins σ H s → (∀ b ∈ fp, FpOk X pins H b) → tn i s.heap → J.go i H →
    wpAny (model P w) X.A (pyNext (.ref it)) (fun r s1 => ∃ u, r = some u ∧
      wpAny (model P w) X.A (letOwnedTupleGo tg (.ref it) u) (fun _ s2 => ∃ x H', Inv X pins σ H' s2 ∧ RelV x u ∧ J.yld i H x H' ∧ tn (i + 1) s2.heap ∧ ∀ b ∈ fp, H' b = none) E s1) E s
  done : ∀ (X : Cx), X.prog = P → X.w = w → X.K = K → X.calm = true → ∀ (i : Nat) (pins : List (Addr × Obj)) (s : Shared) (σ : St) (H : Hp) (E : Value → Shared → Prop), Inv X pins σ H s → (∀ b ∈ fp, FpOk X pins H b) → tn i s.heap → J.stop i H →
    wpAny (model P w) X.A (pyNext (.ref it)) (fun r s1 => r = none ∧ Inv X pins σ H s1) E s
  self : ∀ (A : Around) (i : Nat) (s : Shared) (Q : Value → Shared → Prop) (E : Value → Shared → Prop), tn i s.heap → Q (.ref it) s → wpAny (model P w) A (pyIter (.ref it)) Q E s
abbrev TI := St → Hp → (It → Hp → Prop) → Prop

def PIE (X : Cx) (pins : List (Addr × Obj)) (σ : St) (tg : Expr) (R : It → Hp → Prop) (itv : Value) (s2 : Shared) : Prop :=
  ∃ (it : Addr) (fp : List Addr) (tn : Nat → Heap → Prop) (J : It) (H' : Hp), itv = .ref it ∧ Inv X pins σ H' s2 ∧ Turn X.prog X.w X.K tg J fp it tn ∧ tn 0 s2.heap ∧ (∀ b ∈ fp, FpOk X pins H' b) ∧ R J H'
def PI (X : Cx) (tg iter : Expr) (wi : TI) : Prop :=
  ∀ (pins : List (Addr × Obj)) (s : Shared) (σ : St) (H : Hp) (R : It → Hp → Prop), Inv X pins σ H s → wi σ H R →
    wpAny (model X.prog X.w) X.A (eval iter X.env) (fun v s1 => wpAny (model X.prog X.w) X.A (pyIter v) (PIE X pins σ tg R) X.xe s1) X.xe s


theorem go_of {M : Model} {A : Around} {E : Value → Shared → Prop} {s : Shared} {tg : Expr} {it : Addr} {u : Value} {o : Obj} {n : String} {vs : Array Value} {Q : Unit → Shared → Prop} (ho : s.heap.get? it = some o) (hc : o.cls = .type n) (hd : o.data = .fields vs)
    (hn : ["enumerate", "zip", "dict_itemiterator", "dict_reverseitemiterator", "odict_iterator", "itertools.zip_longest", "itertools.pairwise"].contains n = false) (hQ : Q () s) : wpAny M A (letOwnedTupleGo tg (.ref it) u) Q E s := by
  unfold letOwnedTupleGo
  cases tg <;> first
    | exact wpAny_pure hQ
    | (cases u <;> first
        | exact wpAny_pure hQ
        | (refine wpAny_bind (wpAny_load ho ?_)
           rw [hc, hd]
           show wpAny M A (if (["enumerate", "zip", "dict_itemiterator", "dict_reverseitemiterator", "odict_iterator", "itertools.zip_longest", "itertools.pairwise"].contains n && vs[0]? == some (rawInt _)) = true then _ else _) Q E s
           rw [if_neg (by intro h; rw [hn, Bool.false_and] at h; cases h)]
           exact wpAny_pure hQ))


def Itl (K : PySem.W.Frag) (a : Addr) : It :=
  ⟨fun i H => ∃ xs x, SqL K H a xs ∧ xs[i]? = some x, fun i H x H' => H' = H ∧ ∀ xs, SqL K H a xs → xs[i]? = some x, fun i H => ∃ xs, SqL K H a xs ∧ xs.length ≤ i⟩
def Itt (K : PySem.W.Frag) (a : Addr) : It :=
  ⟨fun i H => ∃ xs x, SqT K H a xs ∧ xs[i]? = some x, fun i H x H' => H' = H ∧ ∀ xs, SqT K H a xs → xs[i]? = some x, fun i H => ∃ xs, SqT K H a xs ∧ xs.length ≤ i⟩

def Itr (lo : Int) (n : Nat) : It := ⟨fun i _ => i < n, fun i H x H' => H' = H ∧ x = .int (lo + i), fun i _ => n ≤ i⟩
theorem turn_list {P : Program} {w : World} {K : PySem.W.Frag} {tg : Expr} (a it : Addr) : Turn P w K tg (Itl K a) [it] it (fun i h => h.IsListIter it a i) where
  mem := by simp
  obj := fun i h st b hb => by
    have e : b = it := by simpa using hb
    subst e
    obtain ⟨o, e, c, d⟩ := st
    exact ⟨o, e, fun v z => by rw [d] at z; cases z⟩
  keep := fun i h h' st k => st.at fun o e => k it (by simp) o e
  item := by
    intro X hP hw hK hc i pins s σ H E I hf st hg
    subst hP hw hK
    obtain ⟨xs, x, hq, hx⟩ := hg
    obtain ⟨its, rv, p, hz⟩ := I.list hq
    obtain ⟨u, hu, ru⟩ := rv.get hx
    obtain ⟨f0, f1, f2, f3, f4, f5⟩ := hf it (by simp)
    refine wpAny_pyNext_list_item st p.isList (x := u) (by simpa using hu) fun h' st' sb => ?_
    have I1 : Inv X pins σ H { s with heap := h' } := I.turned (t' := s.toks) (fun b o hb e => (sb.2 b hb).trans e) f0 f1 f3 f4 f5
    obtain ⟨o, e, c, d⟩ := id st'
    exact ⟨u, rfl, go_of (s := { s with heap := h' }) e c d (by decide) ⟨x, H, I1, ru, ⟨rfl, fun ys hy => by rw [I.list_inj hy hq]; exact hx⟩, st', fun b hb => (hf b hb).1⟩⟩
  done := by
    intro X hP hw hK hc i pins s σ H E I hf st hg
    subst hP hw hK
    obtain ⟨xs, hq, hx⟩ := hg
    obtain ⟨its, rv, p, hz⟩ := I.list hq
    obtain ⟨f0, f1, f2, f3, f4, f5⟩ := hf it (by simp)
    have hl := rv.length
    exact wpAny_pyNext_list_end (I.ok.hd hc) st p.isList (by simp; omega) fun h' eb => ⟨rfl, I.turned (t' := s.toks) (fun b o hb e => eb b o hb e) f0 f1 f3 f4 f5⟩
  self := fun _ _ _ _ _ st h => wpAny_pyIter_listiter st h
theorem turn_tuple {P : Program} {w : World} {K : PySem.W.Frag} {tg : Expr} (a it : Addr) : Turn P w K tg (Itt K a) [it] it (fun i h => h.IsTupleIter it a i) where
  mem := by simp
  obj := fun i h st b hb => by
    have e : b = it := by simpa using hb
    subst e
    obtain ⟨o, e, c, d⟩ := st
    exact ⟨o, e, fun v z => by rw [d] at z; cases z⟩
  keep := fun i h h' st k => st.at fun o e => k it (by simp) o e
  item := by
    intro X hP hw hK hc i pins s σ H E I hf st hg
    subst hP hw hK
    obtain ⟨xs, x, hq, hx⟩ := hg
    obtain ⟨its, rv, p, hz⟩ := I.tuple hq
    obtain ⟨u, hu, ru⟩ := rv.get hx
    obtain ⟨f0, f1, f2, f3, f4, f5⟩ := hf it (by simp)
    refine wpAny_pyNext_tuple_item st (show s.heap.IsTuple a its.toArray from p) (x := u) (by simpa using hu) fun h' st' sb => ?_
    have I1 : Inv X pins σ H { s with heap := h' } := I.turned (t' := s.toks) (fun b o hb e => (sb.2 b hb).trans e) f0 f1 f3 f4 f5
    obtain ⟨o, e, c, d⟩ := id st'
    exact ⟨u, rfl, go_of (s := { s with heap := h' }) e c d (by decide) ⟨x, H, I1, ru, ⟨rfl, fun ys hy => by rw [I.tuple_inj hy hq]; exact hx⟩, st', fun b hb => (hf b hb).1⟩⟩
  done := by
    intro X hP hw hK hc i pins s σ H E I hf st hg
    subst hP hw hK
    obtain ⟨xs, hq, hx⟩ := hg
    obtain ⟨its, rv, p, hz⟩ := I.tuple hq
    obtain ⟨f0, f1, f2, f3, f4, f5⟩ := hf it (by simp)
    have hl := rv.length
    exact wpAny_pyNext_tuple_end (I.ok.hd hc) st (show s.heap.IsTuple a its.toArray from p) (by simp; omega) fun h' eb => ⟨rfl, I.turned (t' := s.toks) (fun b o hb e => eb b o hb e) f0 f1 f3 f4 f5⟩
  self := fun _ _ _ _ _ st h => wpAny_pyIter_tupleiter st h
theorem turn_range {P : Program} {w : World} {K : PySem.W.Frag} {tg : Expr} (it : Addr) (lo : Int) (n : Nat) : Turn P w K tg (Itr lo n) [it] it (fun i h => IsRangeIter h it (lo + (i : Nat) * 1) ((n : Int) - (i : Nat)) 1) where
  mem := by simp
  obj := fun i h st b hb => by
    have e : b = it := by simpa using hb
    subst e
    exact ⟨_, st, fun v z => by
      have z' : Data.fields _ = Data.cell v := z
      cases z'⟩
  keep := fun i h h' st k => k it (by simp) _ st
  item := by
    intro X hP hw hK hc i pins s σ H E I hf st hg
    subst hP hw hK
    obtain ⟨f0, f1, f2, f3, f4, f5⟩ := hf it (by simp)
    have W := Walks.range (prog := X.prog) (w := X.w) (I.ok.hd hc) it lo 1 n
    refine W.item i s _ _ hg st fun v h' tk hv st' kk => ?_
    obtain ⟨t, rfl⟩ := hv
    have I1 : Inv X pins σ H { s with heap := h', toks := tk } := I.turned (fun b o hb e => kk b o (by simpa using hb) e) f0 f1 f3 f4 f5
    refine ⟨_, rfl, go_of (s := { s with heap := h', toks := tk }) (n := "range_iterator") st' rfl rfl (by decide) ⟨.int (lo + i), H, I1, ⟨t, ?_⟩, ⟨rfl, rfl⟩, st', fun b hb => (hf b hb).1⟩⟩
    rw [Int.mul_one]
  done := by
    intro X hP hw hK hc i pins s σ H E I hf st hg
    subst hP hw hK
    obtain ⟨f0, f1, f2, f3, f4, f5⟩ := hf it (by simp)
    exact wpAny_pyNext_range_end (I.ok.hd hc) st (by have : n ≤ i := hg; omega) fun h' eb => ⟨rfl, I.turned (t' := s.toks) (fun b o hb e => eb b o hb e) f0 f1 f3 f4 f5⟩
  self := fun _ _ _ _ _ st h => wpAny_pyIter_rangeiter st h
end L2

namespace L2
open PySem PySem.Spec PyProof.Rows
section
variable {X : Cx} {tg : Expr}
def iList (K : PySem.W.Frag) (tl : TE) : TI := fun σ H R => tl σ H fun x H1 => ∃ a, x = .ref a ∧ (∃ xs, SqL K H1 a xs) ∧ R (Itl K a) H1
def iTup (K : PySem.W.Frag) (tl : TE) : TI := fun σ H R => tl σ H fun x H1 => ∃ a, x = .ref a ∧ (∃ xs, SqT K H1 a xs) ∧ R (Itt K a) H1
theorem pi_list {l : Expr} {tl : TE} (hl : PE X l tl) : PI X tg l (iList X.K tl) := by
  intro pins s σ H R I h
  refine thn (hl pins s σ H _ I h) fun v s1 ⟨x, H1, I1, r1, q1⟩ => ?_
  obtain ⟨a, e, ⟨xs, hq⟩, q⟩ := q1
  subst e
  cases r1
  obtain ⟨its, rv, p, hz⟩ := I1.list hq
  refine wpAny_pyIter_list p.isList ?_
  refine ⟨s1.heap.objs.size, [s1.heap.objs.size], _, _, H1, rfl, I1.kept (t' := s1.toks) fun b o e => Heap.get?_push_of_some _ e, turn_list a _, ⟨_, Heap.get?_push_size _ rfl, rfl, rfl⟩, fun b hb => ?_, q⟩
  have e : b = s1.heap.objs.size := by simpa using hb
  subst e
  exact I1.fpOk (Nat.le_refl _) (I1.hok.fresh (Nat.le_refl _))
theorem pi_tup {l : Expr} {tl : TE} (hl : PE X l tl) : PI X tg l (iTup X.K tl) := by
  intro pins s σ H R I h
  refine thn (hl pins s σ H _ I h) fun v s1 ⟨x, H1, I1, r1, q1⟩ => ?_
  obtain ⟨a, e, ⟨xs, hq⟩, q⟩ := q1
  subst e
  cases r1
  obtain ⟨its, rv, p, hz⟩ := I1.tuple hq
  refine wpAny_pyIter_tuple (show s1.heap.IsTuple a its.toArray from p) ?_
  refine ⟨s1.heap.objs.size, [s1.heap.objs.size], _, _, H1, rfl, I1.kept (t' := s1.toks) fun b o e => Heap.get?_push_of_some _ e, turn_tuple a _, ⟨_, Heap.get?_push_size _ rfl, rfl, rfl⟩, fun b hb => ?_, q⟩
  have e : b = s1.heap.objs.size := by simpa using hb
  subst e
  exact I1.fpOk (Nat.le_refl _) (I1.hok.fresh (Nat.le_refl _))

theorem range_it {pins : List (Addr × Obj)} {σ : St} {H : Hp} {s : Shared} {R : It → Hp → Prop} {E : Value → Shared → Prop} {lo hi : Int} {t u v : Tok} {tk : Nat} (I : Inv X pins σ H s) (h1 : -(2 ^ 62) ≤ lo) (h2 : lo < 2 ^ 62) (h3 : -(2 ^ 62) ≤ hi) (h4 : hi < 2 ^ 62)
    (q : R (Itr lo (hi - lo).toNat) H) : wpAny (model X.prog X.w) X.A (pyIter (.ref s.heap.objs.size)) (PIE X pins σ tg R) E { s with heap := s.heap.push { cls := .type "range", data := .fields #[.int lo t, .int hi u, .int 1 v] }, toks := tk } := by
  refine wpAny_pyIter_range (IsRange.new ..) (small_one h1 h2 h3 h4) ?_
  have I1 : Inv X pins σ H { s with heap := s.heap.push { cls := .type "range", data := .fields #[.int lo t, .int hi u, .int 1 v] }, toks := tk } := I.kept fun b o e => Heap.get?_push_of_some _ e
  refine ⟨(s.heap.push { cls := .type "range", data := .fields #[.int lo t, .int hi u, .int 1 v] }).objs.size, [(s.heap.push { cls := .type "range", data := .fields #[.int lo t, .int hi u, .int 1 v] }).objs.size], _, _, H, rfl,
    I1.kept (t' := tk) fun b o e => Heap.get?_push_of_some _ e, turn_range _ lo (hi - lo).toNat, ?_, fun b hb => ?_, q⟩
  · have e1 : lo + ((0 : Nat) : Int) * 1 = lo := by simp
    have e2 : (((hi - lo).toNat : Nat) : Int) - ((0 : Nat) : Int) = Builtin.Range.rangeSize lo hi 1 := by rw [rangeSize_one]; split <;> omega
    show IsRangeIter _ _ (lo + ((0 : Nat) : Int) * 1) ((((hi - lo).toNat : Nat) : Int) - ((0 : Nat) : Int)) 1
    rw [e1, e2]
    exact Heap.get?_push_size _ rfl
  · have e : b = (s.heap.push { cls := .type "range", data := .fields #[.int lo t, .int hi u, .int 1 v] }).objs.size := by simpa using hb
    subst e
    exact I1.fpOk (Nat.le_refl _) (I1.hok.fresh (Nat.le_refl _))
def iRng1 (ta : TA) : TI := fun σ H R => ta σ H fun vs H1 => ∃ j : Int, vs = [.int j] ∧ -(2 ^ 62) ≤ j ∧ j < 2 ^ 62 ∧ R (Itr 0 j.toNat) H1
def iRng2 (ta : TA) : TI := fun σ H R => ta σ H fun vs H1 => ∃ i j : Int, vs = [.int i, .int j] ∧ (-(2 ^ 62) ≤ i ∧ i < 2 ^ 62 ∧ -(2 ^ 62) ≤ j ∧ j < 2 ^ 62) ∧ R (Itr i (j - i).toNat) H1
theorem pi_range1 {a : Expr} {ta : TA} {p pos : Pos} (hg : Gl X "range") (hm : X.mg "range" = none) (ha : PA X [a] ta) (hs : starEach [a] X.env = [(false, eval a X.env)] := by rfl) : PI X tg (.Call (.Name "range" p) [a] [] pos) (iRng1 ta) := by
  intro pins s σ H R I h
  refine Call_ (ld_blt I hg hm boot_range (PyProof.Rows.callWith_type1 (thn (ha pos pins s σ H _ I h) fun us s1 ⟨vs, H1, I1, r1, q1⟩ => ?_) hs rfl))
  obtain ⟨j, e, q1, q2, q⟩ := q1
  subst e
  cases r1 with
  | cons r rr =>
    cases rr
    obtain ⟨t, rfl⟩ := r
    exact call_range_1 (range_it I1 (by omega) (by omega) q1 q2 (by simpa using q))
def tFor (wi : TI) (g : TG) (tb : TS) : TS := fun D σ H => wi σ H fun J H1 => ∃ W : Nat → Nat → St → Hp → Prop, (∃ m, W 0 m σ H1) ∧ ∀ i m σ H, W i m σ H →
  (J.stop i H ∧ D.nx σ H) ∨ (J.go i H ∧ ∃ N : St → Hp → Prop, (∀ σ' H', N σ' H' → ∃ m', m' < m ∧ W (i + 1) m' σ' H') ∧ ∀ x H', J.yld i H x H' → g x σ H' fun σ2 H2 => tb { D with nx := N, ct := N, bk := D.nx } σ2 H2)

def pinsAt (fp : List Addr) (h : Heap) : List (Addr × Obj) := fp.filterMap fun b => (h.get? b).map fun o => (b, o)
theorem mem_pinsAt {fp : List Addr} {h : Heap} {b : Addr} {o : Obj} (hb : b ∈ fp) (e : h.get? b = some o) : (b, o) ∈ pinsAt fp h := List.mem_filterMap.mpr ⟨b, hb, by rw [e]; rfl⟩
theorem of_pinsAt {fp : List Addr} {h : Heap} {p : Addr × Obj} (hp : p ∈ pinsAt fp h) : p.1 ∈ fp ∧ h.get? p.1 = some p.2 := by
  obtain ⟨b, hb, e⟩ := List.mem_filterMap.mp hp
  cases q : h.get? b with
  | none => rw [q] at e; cases e
  | some o =>
    rw [q] at e
    have e' : (b, o) = p := Option.some.inj e
    subst e'
    exact ⟨hb, q⟩
theorem Inv.pinned {pins : List (Addr × Obj)} {σ : St} {H : Hp} {s : Shared} {fp : List Addr} (I : Inv X pins σ H s) (hf : ∀ b ∈ fp, FpOk X pins H b) (ho : ∀ b ∈ fp, ∃ o, s.heap.get? b = some o ∧ ∀ v, o.data ≠ .cell v) : Inv X (pins ++ pinsAt fp s.heap) σ H s :=
  I.pins_of fun p hp => (List.mem_append.mp hp).elim (fun z => I.pin p (List.mem_append_right _ z)) fun z => by
    obtain ⟨hb, e⟩ := of_pinsAt z
    obtain ⟨f0, f1, f2, _⟩ := hf p.1 hb
    obtain ⟨o, e', d⟩ := ho p.1 hb
    rw [e] at e'; cases e'
    exact ⟨e, f0, f1, f2, d⟩
theorem Inv.unpinned {pins pl : List (Addr × Obj)} {σ : St} {H : Hp} {s : Shared} (I : Inv X (pins ++ pl) σ H s) : Inv X pins σ H s := I.pins_of fun p hp => I.pin p (List.mem_append_right _ (List.mem_append_left _ hp))
theorem ps_for {iter : Expr} {body : List Stmt} {wi : TI} {g : TG} {tb : TS} {pos : Pos} (hp : PassesOwn (model X.prog X.w) X.A X.env X.xe) (hc : X.calm = true) (hi : PI X tg iter wi) (hg : PG X tg g) (hb : PSs X body tb)
    (hs : ∀ x, foldedSetIterable iter X.env x = pure x := by intro _; rfl) : PS X (.For tg iter body [] pos) (tFor wi g tb) := by
  intro pins s σ H D I h
  refine wpAny_For (thn (hi pins s σ H _ I h) fun v s1 h1 => thn h1 fun itv s2 h2 => ?_) hs
  obtain ⟨it, fp, tn, J, H2, e, I2, T, st2, f2, W, ⟨m0, w0⟩, turn⟩ := h2
  subst e
  -- what stays true of the iterator's objects through the loop
  have stat : ∀ {H' : Hp}, (∀ b ∈ fp, H' b = none) → ∀ b ∈ fp, FpOk X pins H' b := fun hn b hb => ⟨hn b hb, (f2 b hb).2⟩
  refine codeAny_forLoop_any (fun n s' => ∃ i σ' H', Inv X pins σ' H' s' ∧ tn i s'.heap ∧ (∀ b ∈ fp, H' b = none) ∧ W i n σ' H') ?_ m0 ⟨0, σ, H2, I2, st2, fun b hb => (f2 b hb).1, w0⟩
  rintro n s3 ⟨i, σ3, H3, I3, st3, fr3, w3⟩
  rcases turn i n σ3 H3 w3 with ⟨stop, qn⟩ | ⟨go, N, hN, step⟩
  · refine wpAny_passesOwn hp (thn (T.done X rfl rfl rfl hc i pins s3 σ3 H3 X.xe I3 (stat fr3) st3 stop) fun r s4 ⟨hr, I4⟩ => ?_)
    subst hr
    exact wpAny_execs_nil ⟨σ3, H3, I4, qn⟩
  · refine wpAny_passesOwn hp (thn (T.item X rfl rfl rfl hc i pins s3 σ3 H3 X.xe I3 (stat fr3) st3 go) fun r s4 ⟨u, hr, h4⟩ => ?_)
    subst hr
    refine wpAny_passesOwn hp (thn h4 fun _ s5 ⟨x, H5, I5, r5, y5, st5, fr5⟩ => ?_)
    have I5' := I5.pinned (stat fr5) (T.obj _ _ st5)
    refine wpAny_passesOwn hp (thn (hg _ s5 σ3 H5 x u _ I5' r5 (step x H5 y5)) fun _ s6 ⟨σ6, H6, I6, q6⟩ => ?_)
    refine wpAny_passesOwn hp (thn (hb _ s6 σ6 H6 _ I6 q6) fun f s7 q7 => ?_)
    have again : ∀ {σ7 : St} {H7 : Hp}, Inv X (pins ++ pinsAt fp s5.heap) σ7 H7 s7 → N σ7 H7 → ∃ m, m < n ∧ ∃ i σ' H', Inv X pins σ' H' s7 ∧ tn i s7.heap ∧ (∀ b ∈ fp, H' b = none) ∧ W i m σ' H' := fun {σ7 H7} I7 n7 => by
      obtain ⟨m', hm, w7⟩ := hN σ7 H7 n7
      refine ⟨m', hm, i + 1, σ7, H7, I7.unpinned, T.keep _ _ _ st5 fun b hb o e => (I7.pin (b, o) (List.mem_append_right _ (List.mem_append_right _ (mem_pinsAt hb e)))).1, fun b hb => ?_, w7⟩
      obtain ⟨o, e, d⟩ := T.obj _ _ st5 b hb
      exact (I7.pin (b, o) (List.mem_append_right _ (List.mem_append_right _ (mem_pinsAt hb e)))).2.1
    cases f with
    | next => obtain ⟨σ7, H7, I7, n7⟩ := q7; exact again I7 n7
    | cont => obtain ⟨σ7, H7, I7, n7⟩ := q7; exact again I7 n7
    | brk => obtain ⟨σ7, H7, I7, q7⟩ := q7; exact ⟨σ7, H7, I7.unpinned, q7⟩
    | ret v => obtain ⟨x7, σ7, H7, I7, r7, q7⟩ := q7; exact ⟨x7, σ7, H7, I7.unpinned, r7, q7⟩
end



theorem for_range {lo : Int} {n : Nat} {g : TG} {tb : TS} {D : Ends} {σ : St} {H : Hp} (Pv : Nat → St → Hp → Prop) (h0 : Pv 0 σ H)
    (hs : ∀ i σ H, i < n → Pv i σ H → g (.int (lo + i)) σ H fun σ2 H2 => tb { D with nx := Pv (i + 1), ct := Pv (i + 1), bk := D.nx } σ2 H2) (hd : ∀ σ H, Pv n σ H → D.nx σ H) :
    ∃ W : Nat → Nat → St → Hp → Prop, (∃ m, W 0 m σ H) ∧ ∀ i m σ H, W i m σ H →
      ((Itr lo n).stop i H ∧ D.nx σ H) ∨ ((Itr lo n).go i H ∧ ∃ N : St → Hp → Prop, (∀ σ' H', N σ' H' → ∃ m', m' < m ∧ W (i + 1) m' σ' H') ∧ ∀ x H', (Itr lo n).yld i H x H' → g x σ H' fun σ2 H2 => tb { D with nx := N, ct := N, bk := D.nx } σ2 H2) := by
  refine ⟨fun i m σ H => m = n - i ∧ i ≤ n ∧ Pv i σ H, ⟨n, by simp, Nat.zero_le _, h0⟩, ?_⟩
  rintro i m σ H ⟨rfl, hi, p⟩
  by_cases hlt : i < n
  · refine .inr ⟨hlt, Pv (i + 1), fun σ' H' p' => ⟨n - (i + 1), by omega, rfl, hlt, p'⟩, fun x H' y => ?_⟩
    obtain ⟨e, y⟩ := y
    subst e y
    exact hs i σ _ hlt p
  · have e : i = n := by omega
    subst e
    exact .inl ⟨Nat.le_refl _, hd σ H p⟩

end L2

namespace L2
open PySem PySem.Spec PyProof.Rows

abbrev R2 := V → V → Hp → VK → Prop

def OpR (X : Cx) (f : Value → Value → Sem Value) (r : R2) : Prop :=
  ∀ (pins : List (Addr × Obj)) (s : Shared) (σ : St) (H : Hp) (x y : V) (v u : Value) (Q : VK), Inv X pins σ H s → RelV x v → RelV y u → r x y H Q →
    wpAny (model X.prog X.w) X.A (f v u) (EP X pins σ Q) X.xe s

def UnR (X : Cx) (f : Value → Sem Value) (r : V → Hp → VK → Prop) : Prop :=
  ∀ (pins : List (Addr × Obj)) (s : Shared) (σ : St) (H : Hp) (x : V) (v : Value) (Q : VK), Inv X pins σ H s → RelV x v → r x H Q →
    wpAny (model X.prog X.w) X.A (f v) (EP X pins σ Q) X.xe s

def CallR (X : Cx) (f : Value) (r : List V → Hp → VK → Prop) : Prop :=
  ∀ (pins : List (Addr × Obj)) (s : Shared) (σ : St) (H : Hp) (xs : List V) (us : List Value) (Q : VK), Inv X pins σ H s → Vals xs us → r xs H Q →
    wpAny (model X.prog X.w) X.A (call f us) (EP X pins σ Q) X.xe s

def TruR (X : Cx) (r : V → Hp → (Bool → Hp → Prop) → Prop) : Prop :=
  ∀ (pins : List (Addr × Obj)) (s : Shared) (σ : St) (H : Hp) (x : V) (v : Value) (Q : Bool → Hp → Prop), Inv X pins σ H s → RelV x v → r x H Q →
    wpAny (model X.prog X.w) X.A (truthy v) (TP X pins σ Q) X.xe s

def tOp (r : R2) (ta tb : TE) : TE := fun σ H Q => ta σ H fun x H1 => tb σ H1 fun y H2 => r x y H2 Q
def tUn (r : V → Hp → VK → Prop) (ta : TE) : TE := fun σ H Q => ta σ H fun x H1 => r x H1 Q

def rI (C : Int → Int → Prop) (g : Int → Int → V) : R2 := fun x y H Q => ∃ i j, x = .int i ∧ y = .int j ∧ C i j ∧ Q (g i j) H
def rI0 (g : Int → Int → V) : R2 := fun x y H Q => ∃ i j, x = .int i ∧ y = .int j ∧ Q (g i j) H
def rU (g : Int → V) : V → Hp → VK → Prop := fun x H Q => ∃ i, x = .int i ∧ Q (g i) H

section
variable {X : Cx} {a b c : Expr} {ta tb tc : TE} {pos : Pos}

theorem binT (ha : PE X a ta) (hb : PE X b tb) {pins : List (Addr × Obj)} {s : Shared} {σ : St} {H : Hp} {R : V → V → Hp → Prop} (I : Inv X pins σ H s)
    (h : ta σ H fun x H1 => tb σ H1 fun y H2 => R x y H2) {Q : Value → Shared → Prop} {f : Value → Value → Sem Value}
    (hf : ∀ v u s2 x y H2, Inv X pins σ H2 s2 → RelV x v → RelV y u → R x y H2 → wpAny (model X.prog X.w) X.A (f v u) Q X.xe s2) :
    wpAny (model X.prog X.w) X.A (eval a X.env) (fun v s₁ => wpAny (model X.prog X.w) X.A (eval b X.env) (fun u s₂ => wpAny (model X.prog X.w) X.A (f v u) Q X.xe s₂) X.xe s₁) X.xe s := by
  refine thn (ha pins s σ H _ I h) fun v s1 ⟨x, H1, I1, r1, q1⟩ => ?_
  refine thn (hb pins s1 σ H1 _ I1 q1) fun u s2 ⟨y, H2, I2, r2, q2⟩ => ?_
  exact hf v u s2 x y H2 I2 r1 r2 q2

theorem pe_op {op : Operator} {r : R2} (ho : OpR X (binaryOp op) r) (ha : PE X a ta) (hb : PE X b tb) : PE X (.BinOp a op b pos) (tOp r ta tb) := by
  intro pins s σ H Q I h
  exact wpAny_BinOp (binT ha hb I h fun v u s2 x y H2 I2 rx ry q => ho pins s2 σ H2 x y v u Q I2 rx ry q)
theorem pe_un {op : UnaryOp} {r : V → Hp → VK → Prop} (ho : UnR X (unaryOp op) r) (ha : PE X a ta) : PE X (.UnaryOp op a pos) (tUn r ta) := by
  intro pins s σ H Q I h
  exact UnaryOp_ (thn (ha pins s σ H _ I h) fun v s1 ⟨x, H1, I1, r1, q1⟩ => ho pins s1 σ H1 x v Q I1 r1 q1)

theorem opI {f : Value → Value → Sem Value} {C : Int → Int → Prop} {g : Int → Int → Int}
    (rule : ∀ (i j : Int) (t u : Tok) (s : Shared) (Q : Value → Shared → Prop) (E : Value → Shared → Prop), C i j → Q (.int (g i j) s.toks) { s with toks := s.toks + 1 } → wpAny (model X.prog X.w) X.A (f (.int i t) (.int j u)) Q E s) :
    OpR X f (rI C fun i j => .int (g i j)) := by
  intro pins s σ H x y v u Q I rx ry h
  obtain ⟨i, j, rfl, rfl, hc, q⟩ := h
  obtain ⟨t, rfl⟩ := rx
  obtain ⟨t', rfl⟩ := ry
  exact rule i j t t' s _ _ hc ⟨.int (g i j), H, I.tok _, ⟨_, rfl⟩, q⟩
theorem opI0 {f : Value → Value → Sem Value} {g : Int → Int → Int}
    (rule : ∀ (i j : Int) (t u : Tok) (s : Shared) (Q : Value → Shared → Prop) (E : Value → Shared → Prop), Q (.int (g i j) s.toks) { s with toks := s.toks + 1 } → wpAny (model X.prog X.w) X.A (f (.int i t) (.int j u)) Q E s) :
    OpR X f (rI0 fun i j => .int (g i j)) := by
  intro pins s σ H x y v u Q I rx ry h
  obtain ⟨i, j, rfl, rfl, q⟩ := h
  obtain ⟨t, rfl⟩ := rx
  obtain ⟨t', rfl⟩ := ry
  exact rule i j t t' s _ _ ⟨.int (g i j), H, I.tok _, ⟨_, rfl⟩, q⟩
theorem opB0 {f : Value → Value → Sem Value} {g : Int → Int → Bool}
    (rule : ∀ (i j : Int) (t u : Tok) (s : Shared) (Q : Value → Shared → Prop) (E : Value → Shared → Prop), Q (.bool (g i j)) s → wpAny (model X.prog X.w) X.A (f (.int i t) (.int j u)) Q E s) :
    OpR X f (rI0 fun i j => .bl (g i j)) := by
  intro pins s σ H x y v u Q I rx ry h
  obtain ⟨i, j, rfl, rfl, q⟩ := h
  obtain ⟨t, rfl⟩ := rx
  obtain ⟨t', rfl⟩ := ry
  exact rule i j t t' s _ _ ⟨.bl (g i j), H, I, rfl, q⟩

def CDiv (i j : Int) : Prop := 0 < j ∧ j < 1073741824
def CDivN (i j : Int) : Prop := j ≠ 0 ∧ j.natAbs < 1073741824
def CPow (i j : Int) : Prop := 0 ≤ j ∧ j ≤ 1000000 ∧ i.natAbs < 2 ^ 64
def CMul (i j : Int) : Prop := (-(2 ^ 64) < i ∧ i < 2 ^ 64) ∨ (-(2 ^ 64) < j ∧ j < 2 ^ 64)
theorem CMul.ok {i j : Int} (h : CMul i j) : IntMulOk i j := by
  rcases h with ⟨h1, h2⟩ | ⟨h1, h2⟩
  · exact .of_left (intBits_le_64 h1 h2)
  · exact .of_right (intBits_le_64 h1 h2)
theorem op_add : OpR X (binaryOp .Add) (rI0 fun i j => .int (i + j)) := opI0 fun _ _ _ _ _ _ _ q => add_int q
theorem op_sub : OpR X (binaryOp .Sub) (rI0 fun i j => .int (i - j)) := opI0 fun _ _ _ _ _ _ _ q => sub_int q
theorem op_mul : OpR X (binaryOp .Mult) (rI CMul fun i j => .int (i * j)) := opI fun _ _ _ _ _ _ _ hc q => mul_int q hc.ok

theorem op_fdiv : OpR X (binaryOp .FloorDiv) (rI CDiv fun i j => .int (i / j)) := opI fun i j _ _ _ _ _ hc q => by
  have h1 : (0 : Int) < j := hc.1
  have h2 : j < 1073741824 := hc.2
  exact floordiv_int (by omega) (by rw [Int.fdiv_eq_ediv_of_nonneg i (by omega)]; exact q) (.inl (PyProof.noPylong_small (by omega)))
theorem op_mod : OpR X (binaryOp .Mod) (rI (fun _ j => 0 < j) fun i j => .int (i % j)) := opI fun i j _ _ _ _ _ hc q => by
  have h1 : (0 : Int) < j := hc
  exact mod_int' (by omega) (by rw [Int.fmod_eq_emod_of_nonneg i (by omega)]; exact q)
theorem op_pow : OpR X (binaryOp .Pow) (rI CPow fun i j => .int (i ^ j.toNat)) := opI fun _ _ _ _ _ _ _ hc q => pow_int_small hc.1 hc.2.1 hc.2.2 q
theorem unI {f : Value → Sem Value} {g : Int → Int}
    (rule : ∀ (i : Int) (t : Tok) (s : Shared) (Q : Value → Shared → Prop) (E : Value → Shared → Prop), Q (.int (g i) s.toks) { s with toks := s.toks + 1 } → wpAny (model X.prog X.w) X.A (f (.int i t)) Q E s) :
    UnR X f (rU fun i => .int (g i)) := by
  intro pins s σ H x v Q I rx h
  obtain ⟨i, rfl, q⟩ := h
  obtain ⟨t, rfl⟩ := rx
  exact rule i t s _ _ ⟨.int (g i), H, I.tok _, ⟨_, rfl⟩, q⟩
theorem un_neg : UnR X (unaryOp .USub) (rU fun i => .int (-i)) := unI fun _ _ _ _ _ q => neg_int q
end



def scal : V → V → Bool
  | .non, .non => true | .non, .int _ => true | .int _, .non => true | .non, .bl _ => true | .bl _, .non => true | .non, .str _ => true | .str _, .non => true
  | .int _, .int _ => true | .bl _, .bl _ => true | .str _, .str _ => true | .byt _, .byt _ => true
  | .int _, .str _ => true | .str _, .int _ => true | .bl _, .str _ => true | .str _, .bl _ => true
  | _, _ => false
def rEq : R2 := fun x y H Q => scal x y = true ∧ Q (.bl (decide (x = y))) H
def rNe : R2 := fun x y H Q => scal x y = true ∧ Q (.bl (!decide (x = y))) H

theorem dec_int {i j : Int} : decide (V.int i = V.int j) = (i == j) := by
  rw [Bool.eq_iff_iff]
  simp
theorem dec_bl {i j : Bool} : decide (V.bl i = V.bl j) = (i == j) := by
  rw [Bool.eq_iff_iff]
  simp
theorem dec_str {i j : Str} : decide (V.str i = V.str j) = (i == j) := by
  rw [Bool.eq_iff_iff]
  simp
theorem dec_byt {i j : Array UInt8} : decide (V.byt i = V.byt j) = (i.toList == j.toList) := by
  rw [Bool.eq_iff_iff]
  cases i
  cases j
  simp

section
variable {X : Cx} {a b c : Expr} {ta tb tc : TE} {pos : Pos}
theorem fin_bl {pins : List (Addr × Obj)} {σ : St} {H : Hp} {s : Shared} {Q : VK} {k k' : Bool} (I : Inv X pins σ H s) (q : Q (.bl k) H) (e : k = k') : EP X pins σ Q (.bool k') s := by
  subst e
  exact ⟨.bl k, H, I, rfl, q⟩
theorem op_eq : OpR X (compareOp .Eq) rEq := by
  intro pins s σ H x y v u Q I rx ry h
  obtain ⟨hs, q⟩ := h
  cases x with
  | non =>
    cases rx
    cases y with
    | non => cases ry; exact PySem.EqNone.eq_none_none (fin_bl I q (by simp))
    | bl j => cases ry; exact PySem.EqNone.eq_none_bool (fin_bl I q (by simp))
    | int j => obtain ⟨t', rfl⟩ := ry; exact PySem.EqNone.eq_none_int (fin_bl I q (by simp))
    | str j => obtain ⟨t', rfl⟩ := ry; exact PySem.EqNone.eq_none_str (fin_bl I q (by simp))
    | _ => exact absurd (show false = true from hs) Bool.false_ne_true
  | bl i =>
    cases rx
    cases y with
    | non => cases ry; exact PySem.EqNone.eq_bool_none (fin_bl I q (by simp))
    | bl j => cases ry; exact eq_bool (fin_bl I q dec_bl)
    | str j => obtain ⟨t', rfl⟩ := ry; exact PySem.EqMixed.eq_bool_str (fin_bl I q (by simp))
    | _ => exact absurd (show false = true from hs) Bool.false_ne_true
  | int i =>
    obtain ⟨t, rfl⟩ := rx
    cases y with
    | non => cases ry; exact PySem.EqNone.eq_int_none (fin_bl I q (by simp))
    | int j => obtain ⟨t', rfl⟩ := ry; exact eq_int (fin_bl I q dec_int)
    | str j => obtain ⟨t', rfl⟩ := ry; exact PySem.EqMixed.eq_int_str (fin_bl I q (by simp))
    | _ => exact absurd (show false = true from hs) Bool.false_ne_true
  | str i =>
    obtain ⟨t, rfl⟩ := rx
    cases y with
    | non => cases ry; exact PySem.EqNone.eq_str_none (fin_bl I q (by simp))
    | bl j => cases ry; exact PySem.EqMixed.eq_str_bool (fin_bl I q (by simp))
    | int j => obtain ⟨t', rfl⟩ := ry; exact PySem.EqMixed.eq_str_int (fin_bl I q (by simp))
    | str j => obtain ⟨t', rfl⟩ := ry; exact eq_str (fin_bl I q dec_str)
    | _ => exact absurd (show false = true from hs) Bool.false_ne_true
  | byt i =>
    obtain ⟨t, rfl⟩ := rx
    cases y with
    | byt j => obtain ⟨t', rfl⟩ := ry; exact PySem.W.eq_bytes (fin_bl I q dec_byt)
    | _ => exact absurd (show false = true from hs) Bool.false_ne_true
  | _ => cases y <;> exact absurd (show false = true from hs) Bool.false_ne_true
theorem op_ne : OpR X (compareOp .NotEq) rNe := by
  intro pins s σ H x y v u Q I rx ry h
  obtain ⟨hs, q⟩ := h
  cases x with
  | non =>
    cases rx
    cases y with
    | non => cases ry; exact PySem.EqNone.ne_none_none (fin_bl I q (by simp))
    | bl j => cases ry; exact PySem.EqNone.ne_none_bool (fin_bl I q (by simp))
    | int j => obtain ⟨t', rfl⟩ := ry; exact PySem.EqNone.ne_none_int (fin_bl I q (by simp))
    | str j => obtain ⟨t', rfl⟩ := ry; exact PySem.EqNone.ne_none_str (fin_bl I q (by simp))
    | _ => exact absurd (show false = true from hs) Bool.false_ne_true
  | bl i =>
    cases rx
    cases y with
    | non => cases ry; exact PySem.EqNone.ne_bool_none (fin_bl I q (by simp))
    | bl j => cases ry; exact ne_bool (fin_bl I q (congrArg not dec_bl))
    | str j => obtain ⟨t', rfl⟩ := ry; exact PySem.EqMixed.ne_bool_str (fin_bl I q (by simp))
    | _ => exact absurd (show false = true from hs) Bool.false_ne_true
  | int i =>
    obtain ⟨t, rfl⟩ := rx
    cases y with
    | non => cases ry; exact PySem.EqNone.ne_int_none (fin_bl I q (by simp))
    | int j => obtain ⟨t', rfl⟩ := ry; exact ne_int (fin_bl I q (congrArg not dec_int))
    | str j => obtain ⟨t', rfl⟩ := ry; exact PySem.EqMixed.ne_int_str (fin_bl I q (by simp))
    | _ => exact absurd (show false = true from hs) Bool.false_ne_true
  | str i =>
    obtain ⟨t, rfl⟩ := rx
    cases y with
    | non => cases ry; exact PySem.EqNone.ne_str_none (fin_bl I q (by simp))
    | bl j => cases ry; exact PySem.EqMixed.ne_str_bool (fin_bl I q (by simp))
    | int j => obtain ⟨t', rfl⟩ := ry; exact PySem.EqMixed.ne_str_int (fin_bl I q (by simp))
    | str j => obtain ⟨t', rfl⟩ := ry; exact ne_str (fin_bl I q (congrArg not dec_str))
    | _ => exact absurd (show false = true from hs) Bool.false_ne_true
  | byt i =>
    obtain ⟨t, rfl⟩ := rx
    cases y with
    | byt j => obtain ⟨t', rfl⟩ := ry; exact PySem.W.ne_bytes (fin_bl I q (congrArg not dec_byt))
    | _ => exact absurd (show false = true from hs) Bool.false_ne_true
  | _ => cases y <;> exact absurd (show false = true from hs) Bool.false_ne_true

theorem op_lt : OpR X (compareOp .Lt) (rI0 fun i j => .bl (decide (i < j))) := opB0 fun _ _ _ _ _ _ _ q => lt_int q
theorem op_le : OpR X (compareOp .LtE) (rI0 fun i j => .bl (decide (i ≤ j))) := opB0 fun _ _ _ _ _ _ _ q => le_int q
theorem op_gt : OpR X (compareOp .Gt) (rI0 fun i j => .bl (decide (j < i))) := opB0 fun _ _ _ _ _ _ _ q => gt_int q
theorem op_ge : OpR X (compareOp .GtE) (rI0 fun i j => .bl (decide (j ≤ i))) := opB0 fun _ _ _ _ _ _ _ q => ge_int q
theorem op_isN : OpR X (compareOp .Is) (fun x y H Q => y = .non ∧ Q (.bl (decide (x = .non))) H) := by
  intro pins s σ H x y v u Q I rx ry h
  obtain ⟨rfl, q⟩ := h
  cases ry
  refine is_none_gen (fin_bl I q ?_)
  cases x <;> first
    | (cases rx; rfl)
    | (obtain ⟨t, rfl⟩ := rx; rfl)
def isObj : HO → Bool
  | .lst _ => true
  | .ins _ _ _ => true
  | _ => false
theorem OpR.or {f : Value → Value → Sem Value} {r r' : R2} (h : OpR X f r) (h' : OpR X f r') : OpR X f (fun x y H Q => r x y H Q ∨ r' x y H Q) := by
  intro pins s σ H x y v u Q I rx ry q
  rcases q with q | q
  · exact h pins s σ H x y v u Q I rx ry q
  · exact h' pins s σ H x y v u Q I rx ry q

theorem nomark (b : Expr) {op : CmpOp} (h : op ≠ .In := by decide) (h2 : op ≠ .NotIn := by decide) : behindInMarks op b = false := by
  have e1 : (op == CmpOp.In) = false := by cases op <;> first | rfl | exact absurd rfl h
  have e2 : (op == CmpOp.NotIn) = false := by cases op <;> first | rfl | exact absurd rfl h2
  cases b <;> simp [behindInMarks, e1, e2]

theorem pe_cmpR {op : CmpOp} {r : R2} (ho : OpR X (compareOp op) r) (ha : PE X a ta) (hb : PE X b tb) (hm : behindInMarks op b = false) : PE X (.Compare a [op] [b] pos) (tOp r ta tb) := by
  intro pins s σ H Q I h
  exact wpAny_Compare1 (binT ha hb I h fun v u s2 x y H2 I2 rx ry q => ho pins s2 σ H2 x y v u Q I2 rx ry q) hm

def tTest (t : TE) : TT := fun σ H Q => t σ H fun x H' => ∃ k, x = .bl k ∧ Q k H'
theorem pt_cmpR {op : CmpOp} {r : R2} (ho : OpR X (compareOp op) r) (ha : PE X a ta) (hb : PE X b tb) (hm : behindInMarks op b = false) : PT X (.Compare a [op] [b] pos) (tTest (tOp r ta tb)) := by
  intro pins s σ H Q I h
  refine wpAny_isTrue_Compare1 (thn (ha pins s σ H _ I h) fun v s1 ⟨x, H1, I1, r1, q1⟩ => thn (hb pins s1 σ H1 _ I1 q1) fun u s2 ⟨y, H2, I2, r2, q2⟩ =>
    thn (ho pins s2 σ H2 x y v u _ I2 r1 r2 q2) fun c s3 ⟨z, H3, I3, r3, k, e, q3⟩ => ?_) hm
  subst e
  cases r3
  exact wpAny_truthy_bool ⟨H3, I3, q3⟩

def tChain (r r' : R2) (ta tb tc : TE) : TE := fun σ H Q => ta σ H fun x H1 => tb σ H1 fun y H2 => r x y H2 fun z H3 => ∃ k, z = .bl k ∧
  (if k = true then tc σ H3 fun w' H4 => r' y w' H4 Q else Q (.bl false) H3)
theorem pe_chain {op op' : CmpOp} {r r' : R2} (ho : OpR X (compareOp op) r) (ho' : OpR X (compareOp op') r') (ha : PE X a ta) (hb : PE X b tb) (hc : PE X c tc)
    (hm : lastMarks [op, op'] [b, c] = false := by with_unfolding_all rfl) : PE X (.Compare a [op, op'] [b, c] pos) (tChain r r' ta tb tc) := by
  intro pins s σ H Q I h
  refine Compare_chain (thn (ha pins s σ H _ I h) fun v s1 ⟨x, H1, I1, r1, q1⟩ => chain_link (thn (hb pins s1 σ H1 _ I1 q1) fun u s2 ⟨y, H2, I2, r2, q2⟩ =>
    thn (ho pins s2 σ H2 x y v u _ I2 r1 r2 q2) fun d s3 ⟨z, H3, I3, r3, k, e, q3⟩ => ?_)) hm
  subst e
  cases r3
  refine wpAny_truthy_bool ?_
  cases k with
  | false => exact ite_ff ⟨.bl false, H3, I3, rfl, q3⟩
  | true => exact ite_tt (chain_last (thn (hc pins s3 σ H3 _ I3 q3) fun w' s4 ⟨z', H4, I4, r4, q4⟩ => ho' pins s4 σ H4 y z' u w' Q I4 r2 r4 q4))
theorem pt_chain {op op' : CmpOp} {r r' : R2} (ho : OpR X (compareOp op) r) (ho' : OpR X (compareOp op') r') (ha : PE X a ta) (hb : PE X b tb) (hc : PE X c tc)
    (hm : lastMarks [op, op'] [b, c] = false := by with_unfolding_all rfl) : PT X (.Compare a [op, op'] [b, c] pos) (tTest (tChain r r' ta tb tc)) := by
  intro pins s σ H Q I h
  refine isTrue_chain (thn (ha pins s σ H _ I h) fun v s1 ⟨x, H1, I1, r1, q1⟩ => test_link (thn (hb pins s1 σ H1 _ I1 q1) fun u s2 ⟨y, H2, I2, r2, q2⟩ =>
    thn (ho pins s2 σ H2 x y v u _ I2 r1 r2 q2) fun d s3 ⟨z, H3, I3, r3, k, e, q3⟩ => ?_)) hm
  subst e
  cases r3
  refine wpAny_truthy_bool ?_
  cases k with
  | false =>
    obtain ⟨k', e', q'⟩ := q3
    cases e'
    exact ite_ff ⟨H3, I3, q'⟩
  | true =>
    refine ite_tt (test_last (thn (hc pins s3 σ H3 _ I3 q3) fun w' s4 ⟨z', H4, I4, r4, q4⟩ => thn (ho' pins s4 σ H4 y z' u w' _ I4 r2 r4 q4) fun d' s5 ⟨z2, H5, I5, r5, k2, e2, q5⟩ => ?_))
    subst e2
    cases r5
    exact wpAny_truthy_bool ⟨H5, I5, q5⟩



def TruV (K : PySem.W.Frag) (x : V) (H : Hp) (k : Bool) : Prop :=
  match x with
  | .non => k = false
  | .bl b => k = b
  | .int i => k = (i != 0)
  | .str y => y.length ≤ sizeLine ∧ k = ((y.length : Int) != 0)
  | .byt y => y.size ≤ sizeLine ∧ k = ((y.size : Int) != 0)
  | .ref p => (∃ xs, SqL K H p xs ∧ k = !xs.isEmpty) ∨ (∃ xs, SqT K H p xs ∧ k = !xs.isEmpty) ∨ ∃ kvs, H p = some (.dK kvs) ∧ k = !kvs.isEmpty
  | _ => False
theorem isEmpty_kv {κ : Type} {kvs : List (κ × V)} {vs : List (κ × Value)} (r : KV kvs vs) : (!vs.isEmpty) = !kvs.isEmpty := by
  cases r <;> rfl
theorem isEmpty_of {xs : List V} {its : List Value} (r : Vals xs its) : (!its.toArray.isEmpty) = !xs.isEmpty := by
  cases r <;> simp
theorem line63 : (sizeLine : Nat) < 2 ^ 63 := by rw [sizeLine_eq]; decide
theorem tru_ok : TruR X (fun x H Q => ∃ k, TruV X.K x H k ∧ Q k H) := by
  intro pins s σ H x v Q I rx h
  obtain ⟨k, e, q⟩ := h
  have hl := line63
  have hs : sizeLine = 16777216 := sizeLine_eq
  cases x with
  | non =>
    cases rx
    have e' : k = false := e
    subst e'
    exact truthy_none ⟨H, I, q⟩
  | bl b =>
    cases rx
    have e' : k = b := e
    subst e'
    exact wpAny_truthy_bool ⟨H, I, q⟩
  | int i =>
    obtain ⟨t, rfl⟩ := rx
    have e' : k = (i != 0) := e
    subst e'
    exact PySem.P.truthy_int ⟨H, I, q⟩
  | str y =>
    obtain ⟨t, rfl⟩ := rx
    obtain ⟨hy, e'⟩ : y.length ≤ sizeLine ∧ k = ((y.length : Int) != 0) := e
    subst e'
    exact PySem.P.truthy_str (by omega) ⟨H, I.tok _, q⟩
  | byt y =>
    obtain ⟨t, rfl⟩ := rx
    obtain ⟨hy, e'⟩ : y.size ≤ sizeLine ∧ k = ((y.size : Int) != 0) := e
    subst e'
    exact PySem.W.truthy_bytes (by omega) ⟨H, I.tok _, q⟩
  | ref p =>
    cases rx
    have e' : (∃ xs, SqL X.K H p xs ∧ k = !xs.isEmpty) ∨ (∃ xs, SqT X.K H p xs ∧ k = !xs.isEmpty) ∨ ∃ kvs, H p = some (.dK kvs) ∧ k = !kvs.isEmpty := e
    rcases e' with ⟨xs, hx, e'⟩ | ⟨xs, hx, e'⟩ | ⟨kvs, hx, e'⟩
    · subst e'
      obtain ⟨its, r, pl, hz⟩ := I.list hx
      have hlen := r.length
      exact wpAny_truthy_list pl.isList (by simp only [List.size_toArray]; omega) ⟨H, I.tok _, by rw [isEmpty_of r]; exact q⟩
    · subst e'
      obtain ⟨its, r, pl, hz⟩ := I.tuple hx
      have hlen := r.length
      exact truthy_tuple pl (by simp only [List.size_toArray]; omega) ⟨H, I.tok _, by rw [isEmpty_of r]; exact q⟩
    · subst e'
      obtain ⟨hz, hS, vs, r, m⟩ : kvs.length ≤ sizeLine ∧ (p == sysModules) = false ∧ ∃ vs, KV kvs vs ∧ s.heap.DictOf (mixKind X.prog X.w) p vs := I.hok p _ hx
      have hlen : kvs.length = vs.length := Paired.length r
      exact wpAny_truthy_dict hS m (by omega) ⟨H, I.tok _, by rw [isEmpty_kv r]; exact q⟩
  | _ => exact (show False from e).elim

theorem pt_truth (ha : PE X a ta) (he : ∀ whole, isTrue a X.env whole = (do let v ← whole; standAt a.pos; holding [v] (truthy v))) :
    PT X a (fun σ H Q => ta σ H fun x H' => ∃ k, TruV X.K x H' k ∧ Q k H') := by
  intro pins s σ H Q I h
  exact isTrue_plain (thn (ha pins s σ H _ I h) fun v s1 ⟨x, H1, I1, r1, q1⟩ => tru_ok pins s1 σ H1 x v Q I1 r1 q1) (he _)


theorem op_add_str : OpR X (binaryOp .Add) (fun x y H Q => ∃ i j, x = .str i ∧ y = .str j ∧ i.length + j.length ≤ sizeLine ∧ Q (.str (i ++ j)) H) := by
  intro pins s σ H x y v u Q I rx ry h
  obtain ⟨i, j, rfl, rfl, hz, q⟩ := h
  obtain ⟨t, rfl⟩ := rx
  obtain ⟨t', rfl⟩ := ry
  exact add_str (fun t' tk => ⟨.str (i ++ j), H, I.tok _, ⟨_, rfl⟩, q⟩) hz
def PlainIxT (b : Expr) : Prop := ∀ o i, subscripted b false o i = operate [o, i] (getItem o i)

theorem vals1 {x : V} {us : List Value} (r : Vals [x] us) : ∃ u, us = [u] ∧ RelV x u := by
  cases r with
  | cons r1 r2 => cases r2; exact ⟨_, rfl, r1⟩
theorem vals2 {x y : V} {us : List Value} (r : Vals [x, y] us) : ∃ u w', us = [u, w'] ∧ RelV x u ∧ RelV y w' := by
  cases r with
  | cons r1 r2 =>
    cases r2 with
    | cons r3 r4 => cases r4; exact ⟨_, _, rfl, r1, r3⟩
theorem call_int1 : CallR X (.type "int") (fun xs H Q => (∃ i, xs = [.int i] ∧ Q (.int i) H) ∨ ∃ k, xs = [.bl k] ∧ Q (.int (if k then 1 else 0)) H) := by
  intro pins s σ H xs us Q I r h
  rcases h with ⟨i, rfl, q⟩ | ⟨k, rfl, q⟩
  · obtain ⟨u, rfl, t, rfl⟩ := vals1 r
    exact call_int_int ⟨.int i, H, I, ⟨_, rfl⟩, q⟩
  · obtain ⟨u, rfl, r1⟩ := vals1 r
    cases r1
    exact call_int_bool ⟨.int (if k then 1 else 0), H, I.tok _, ⟨_, rfl⟩, q⟩
theorem call_ord : CallR X (.builtin "ord") (fun xs H Q => ∃ x, xs = [.str x] ∧ x.length = 1 ∧ Q (.int (x.cps.getD 0 0 : Nat)) H) := by
  intro pins s σ H xs us Q I r h
  obtain ⟨x, rfl, hz, q⟩ := h
  obtain ⟨u, rfl, t, rfl⟩ := vals1 r
  exact ord_of_one hz ⟨.int _, H, I.tok _, ⟨_, rfl⟩, q⟩
def LenV (K : PySem.W.Frag) (x : V) (H : Hp) (n : Nat) : Prop :=
  match x with
  | .str y => y.length ≤ sizeLine ∧ n = y.length
  | .byt y => y.size ≤ sizeLine ∧ n = y.size
  | .ref p => (∃ xs, SqL K H p xs ∧ n = xs.length) ∨ ∃ xs, SqT K H p xs ∧ n = xs.length
  | _ => False
end
end L2

namespace L2
open PySem PySem.Spec PyProof.Rows


structure ObjM (h : Heap) (x dx C : Addr) (mA : Str → Option Value) : Prop where
  obj : h.get? x = some (PySem.W.instObj C dx)
  ns : h.Ns1 dx mA
  ne : dx ≠ x

theorem lookIn_ns {h : Heap} {dx : Addr} {mA : Str → Option Value} (n : h.Ns1 dx mA) : ∃ od, h.get? dx = some od ∧ ∀ name, PySem.W.lookIn name od = some (mA name) := by
  obtain ⟨o, es, ep, ho, hd, hk, _, hm⟩ := n
  refine ⟨o, ho, fun name => ?_⟩
  have e := hm name
  unfold nsFind findBy at e
  rw [← Array.find?_toList] at e
  unfold PySem.W.lookIn
  rw [hd]
  dsimp only
  split
  · rename_i y q
    rw [q] at e
    exact congrArg some e
  · rename_i q
    rw [q] at e
    have a : es.toList.any (·.refKey) = false := by
      rw [List.any_eq_false]
      intro y hy
      obtain ⟨z, t, hkey⟩ := hk y (Array.mem_toList_iff.mp hy)
      simp [DictEntry.refKey, hkey]
    have a' : ¬ es.toList.any (·.refKey) = true := by rw [a]; exact Bool.false_ne_true
    rw [if_neg a']
    exact congrArg some e

theorem ObjM.look {h : Heap} {x dx C : Addr} {mA : Str → Option Value} (I : ObjM h x dx C mA) : ∃ od, PySem.W.InstAt h x (PySem.W.instObj C dx) C (some od) ∧ ∀ name, PySem.W.lookIn name od = some (mA name) :=
  let ⟨od, ho, hl⟩ := lookIn_ns I.ns
  ⟨od, ⟨I.obj, rfl, rfl, ho⟩, hl⟩

section
variable {prog : Program} {w : World} {A : Around} {E : Value → Shared → Prop} {s : Shared} {K : PySem.W.Frag} {x dx C f : Addr} {mA : Str → Option Value} {name : Str} {v : Value}

theorem get_map {expr : Bool} {Q : Value → Shared → Prop} (X : K.In s.heap) (I : ObjM s.heap x dx C mA) (hg : PySem.W.plainGet K C name = true) (hh : PySem.W.hasDictIn K C = true)
    (ha : PySem.W.findIn K (.ref C) name = some none) (hv : mA name = some v) (hv' : PySem.W.handedIn v = true) (h : Q v { s with toks := s.toks + 1 }) :
    wpAny (model prog w) A (getAttr (.ref x) name expr) Q E s := by
  obtain ⟨od, J, hl⟩ := I.look
  exact PySem.W.get_value X J (PySem.W.plainGet_of hg).1 (PySem.W.findObj_own hh ha rfl (by rw [hl, hv])) hv' h

theorem get_meth {pl : Sem Bool} {Q : Value × List Value → Shared → Prop} (X : K.In s.heap) (I : ObjM s.heap x dx C mA) (hg : PySem.W.plainGet K C name = true)
    (hf : PySem.W.findIn K (.ref C) name = some (some (.ref f))) (ht : PySem.W.isFn K (.ref f) = true) (hv : mA name = none) (h : Q (.ref f, [.ref x]) s) :
    wpAny (model prog w) A (getMethod (.ref x) name pl) Q E s := by
  obtain ⟨od, J, hl⟩ := I.look
  exact PySem.W.method_fn X J (PySem.W.plainGet_of hg).1 (PySem.W.plainGet_of hg).2 hf (beq_iff_eq.mp ht) (by show (PySem.W.lookIn name od).map (·.isSome) = some false; rw [hl, hv]; rfl) h

theorem set_map {ns : List Str} {Q : Unit → Shared → Prop} (X : K.In s.heap) (I : ObjM s.heap x dx C mA)
    (hs : PySem.W.findIn K (.ref C) "__setattr__" = some (some (.builtin "object.__setattr__"))) (hp : PySem.W.plainOver K C = true) (ht : PySem.W.takerIn K C name = some none) (hh : PySem.W.hasDictIn K C = true)
    (hw : PySem.Within mA ns) (hsz : ns.length ≤ sizeLine)
    (h : ∀ h', ObjM h' x dx C (fun y => if y = name then some v else mA y) → Heap.SameBut dx s.heap h' → Q () { s with heap := h', toks := s.toks + 2 }) :
    wpAny (model prog w) A (setAttr (.ref x) name v) Q E s := by
  obtain ⟨od, J, hl⟩ := I.look
  refine PySem.W.set_plain X J hs (PySem.W.osa_open (s := { s with toks := s.toks + 1 }) (r := none) X J hp ht fun b => ?_)
  obtain ⟨cd, hc, hd'⟩ := PySem.W.any_some hh
  have hx : s.heap.get? x = some ⟨.ref C, some dx, .plain, #[]⟩ := I.obj
  refine wpAny_bind (wpAny_pure (wpAny_bind (wpAny_bind (wpAny_loadPart hx (wpAny_bind (PySem.W.Looks.here (s := { s with toks := s.toks + 1 }) (PySem.W.looks_clsIn X hc) ?_))))))
  rw [hd']
  refine wpAny_pure (a := some dx) (wpAny_bind (wpAny_pure (wpAny_bind ?_)))
  refine wpAny_nsSet1 (s := { s with toks := s.toks + 1 }) I.ns fun h' hn2 hs2 => ?_
  obtain ⟨oD, esD, epD, hoD, hdD, hcD⟩ := hn2.count (PySem.Within.cons name v hw)
  refine wpAny_bind (wpAny_lookBehind hoD (by rw [hdD]; exact pastItsLine_dict (Nat.le_trans hcD (by rw [List.length_cons]; omega))) ?_)
  exact wpAny_pure (h _ ⟨(hs2.2 _ (Ne.symm I.ne)).trans I.obj, hn2, I.ne⟩ hs2)


theorem make_map {R : Result → Shared → Prop} {vs : List Value} {kw : List (Str × Value)} (X : K.In s.heap) (hm : PySem.W.makesIn K C = true)
    (hi : PySem.W.findIn K (.ref C) "__init__" = some (some (.ref f))) (hf : PySem.W.typeIn K (.ref f) = some (.type "function"))
    (h : codeAny (model prog w) (A.under (.builtin "type.__call__" ⟨.ref C :: vs, kw⟩)) (.call (.ref f) ⟨.ref (s.heap.objs.size + 1) :: vs, kw⟩) (PySem.W.InitBack (s.heap.objs.size + 1) R)
      { s with heap := (s.heap.push PySem.W.emptyDict).push (PySem.W.instObj C s.heap.objs.size) }) :
    codeAny (model prog w) A (.call (.ref C) ⟨vs, kw⟩) R s := by
  obtain ⟨hh, g, d, t, os⟩ := s
  exact PySem.W.make_core (PySem.W.makes_of X hm) (PySem.W.looks_findIn X hi) (fun self => PySem.W.bind_fn X self hf) (.inl rfl) h

end


def putF (f : Str) (v : V) : List (Str × V) → List (Str × V)
  | [] => [(f, v)]
  | (g, x) :: r => if g = f then (g, v) :: r else (g, x) :: putF f v r
theorem lookup_putF (f g : Str) (v : V) : ∀ fs : List (Str × V), (putF f v fs).lookup g = if g = f then some v else fs.lookup g
  | [] => by
    show List.lookup g [(f, v)] = _
    by_cases h : g = f
    · have hb : (g == f) = true := beq_iff_eq.mpr h
      simp only [List.lookup, hb, if_pos h]
    · have hb : (g == f) = false := beq_eq_false_iff_ne.mpr h
      simp only [List.lookup, hb, if_neg h]
  | (k, x) :: r => by
    have ih := lookup_putF f g v r
    rw [show putF f v ((k, x) :: r) = (if k = f then (k, v) :: r else (k, x) :: putF f v r) from rfl]
    by_cases hk : k = f
    · rw [if_pos hk]
      by_cases h : g = k
      · have hb : (g == k) = true := beq_iff_eq.mpr h
        simp only [List.lookup, hb, if_pos (h.trans hk)]
      · have hb : (g == k) = false := beq_eq_false_iff_ne.mpr h
        simp only [List.lookup, hb, if_neg (fun e : g = f => h (e.trans hk.symm))]
    · rw [if_neg hk]
      by_cases h : g = k
      · have hb : (g == k) = true := beq_iff_eq.mpr h
        simp only [List.lookup, hb, if_neg (fun e : g = f => hk (h.symm.trans e))]
      · have hb : (g == k) = false := beq_eq_false_iff_ne.mpr h
        simp only [List.lookup, hb]
        exact ih
theorem keys_putF (f : Str) (v : V) : ∀ fs : List (Str × V), f ∈ (putF f v fs).map (·.1) ∧ ∀ g, g ∈ fs.map (·.1) → g ∈ (putF f v fs).map (·.1)
  | [] => ⟨by simp [putF], fun g h => by simp at h⟩
  | (k, x) :: r => by
    obtain ⟨i1, i2⟩ := keys_putF f v r
    rw [show putF f v ((k, x) :: r) = (if k = f then (k, v) :: r else (k, x) :: putF f v r) from rfl]
    by_cases hk : k = f
    · rw [if_pos hk]
      subst hk
      exact ⟨by simp, fun g h => by simpa using h⟩
    · rw [if_neg hk]
      refine ⟨?_, fun g h => ?_⟩
      · rw [List.map_cons]
        exact List.mem_cons_of_mem _ i1
      · rw [List.map_cons] at h ⊢
        rcases List.mem_cons.mp h with e | e
        · exact List.mem_cons.mpr (.inl e)
        · exact List.mem_cons_of_mem _ (i2 g e)
theorem length_putF (f : Str) (v : V) : ∀ fs : List (Str × V), (putF f v fs).length ≤ fs.length + 1
  | [] => by simp [putF]
  | (k, x) :: r => by
    have ih := length_putF f v r
    rw [show putF f v ((k, x) :: r) = (if k = f then (k, v) :: r else (k, x) :: putF f v r) from rfl]
    by_cases hk : k = f
    · rw [if_pos hk, List.length_cons, List.length_cons]; omega
    · rw [if_neg hk, List.length_cons, List.length_cons]; omega

theorem RelO.some_of {v : V} {o : Option Value} (r : RelO (some v) o) : ∃ u, o = some u ∧ RelV v u := by
  cases o with
  | none => exact (show False from r).elim
  | some u => exact ⟨u, rfl, r⟩
theorem RelO.none_of {o : Option Value} (r : RelO none o) : o = none := by
  cases o with
  | none => rfl
  | some u => exact (show False from r).elim
theorem handed_of {v : V} {u : Value} (r : RelV v u) : PySem.W.handedIn u = true := by
  cases v with
  | non => cases (show u = Value.none from r); rfl
  | bl b => cases (show u = Value.bool b from r); rfl
  | int i => obtain ⟨t, e⟩ := (show ∃ t, u = Value.int i t from r); cases e; rfl
  | str x => obtain ⟨t, e⟩ := (show ∃ t, u = Value.str x t from r); cases e; rfl
  | byt b => obtain ⟨t, e⟩ := (show ∃ t, u = Value.bytes b t from r); cases e; rfl
  | flt b => obtain ⟨t, e⟩ := (show ∃ t, u = Value.float b t from r); cases e; rfl
  | ref a => cases (show u = Value.ref a from r); rfl
  | ty n => cases (show u = Value.type n from r); rfl

section
variable {P : Program} {w : World} {H H' : Hp} {h h' : Heap} {a C dx : Addr} {fs fs' : List (Str × V)}
theorem ins_get (hok : HOk P w H h) (e : H a = some (.ins C dx fs)) : ∃ mA, ObjM h a dx C mA ∧ (∀ f, RelO (fs.lookup f) (mA f)) ∧ PySem.Within mA (fs.map (·.1)) ∧ fs.length ≤ 1000 ∧ H dx = some (.own a) := by
  obtain ⟨d, z, ne, ob, mA, n, r, q⟩ := (show ObjOk P w H h a (.ins C dx fs) from hok a _ e)
  exact ⟨mA, ⟨ob, n, ne⟩, r, q, z, d⟩
end


structure Cls (K : PySem.W.Frag) (C : Addr) : Prop where
  pg : PySem.W.plainGet K C Str.empty = true
  hd : PySem.W.hasDictIn K C = true
  po : PySem.W.plainOver K C = true
  sa : PySem.W.findIn K (.ref C) "__setattr__" = some (some (.builtin "object.__setattr__"))
theorem Cls.get {K : PySem.W.Frag} {C : Addr} (c : Cls K C) (f : Str) : PySem.W.plainGet K C f = true := c.pg

def NoAttr (K : PySem.W.Frag) (C : Addr) (f : Str) : Prop := PySem.W.findIn K (.ref C) f = some none
theorem NoAttr.taker {K : PySem.W.Frag} {C : Addr} {f : Str} (n : NoAttr K C f) : PySem.W.takerIn K C f = some none := by
  unfold PySem.W.takerIn
  rw [show PySem.W.findIn K (.ref C) f = some none from n]
  rfl

structure Con (K : PySem.W.Frag) (C : Addr) (f : Str) (v : V) (u : Value) : Prop where
  at_ : PySem.W.findIn K (.ref C) f = some (some u)
  rel : RelV v u
  get : PySem.W.specialIn K u "__get__" = some none
  cp : PySem.W.copiedNames.contains f = false

structure Meth (K : PySem.W.Frag) (C : Addr) (m : Str) (f : Addr) : Prop where
  at_ : PySem.W.findIn K (.ref C) m = some (some (.ref f))
  fn : PySem.W.isFn K (.ref f) = true
  kp : PySem.W.keepIn K (.ref f) = true

section
variable {X : Cx} {pins : List (Addr × Obj)} {σ : St} {H : Hp} {s : Shared} {a C dx : Addr} {fs : List (Str × V)} {f : Str} {v : V} {A : Around} {E : Value → Shared → Prop}

theorem getattr_ok {b : Bool} {Q : Value → Shared → Prop} (I : Inv X pins σ H s) (e : H a = some (.ins C dx fs)) (c : Cls X.K C) (n : NoAttr X.K C f) (l : fs.lookup f = some v)
    (h : ∀ u s', Inv X pins σ H s' → RelV v u → Q u s') : wpAny (model X.prog X.w) A (getAttr (.ref a) f b) Q E s := by
  obtain ⟨mA, O, r, _, _, _⟩ := ins_get I.hok e
  obtain ⟨u, hu, ru⟩ := RelO.some_of (v := v) (o := mA f) (by rw [← l]; exact r f)
  exact get_map I.kIn O (c.get f) c.hd n hu (handed_of ru) (h u _ (I.tok _) ru)

theorem getmeth_ok {m : Str} {g : Addr} {pl : Sem Bool} {Q : Value × List Value → Shared → Prop} (I : Inv X pins σ H s) (e : H a = some (.ins C dx fs)) (c : Cls X.K C) (k : Meth X.K C m g) (l : fs.lookup m = none)
    (h : Q (.ref g, [.ref a]) s) : wpAny (model X.prog X.w) A (getMethod (.ref a) m pl) Q E s := by
  obtain ⟨mA, O, r, _, _, _⟩ := ins_get I.hok e
  have hn : mA m = none := RelO.none_of (by rw [← l]; exact r m)
  exact get_meth I.kIn O (c.get m) k.at_ k.fn hn h

theorem setattr_ok {y : V} {u : Value} {Q : Unit → Shared → Prop} (I : Inv X pins σ H s) (e : H a = some (.ins C dx fs)) (c : Cls X.K C) (n : NoAttr X.K C f) (hl : fs.length < 1000) (ry : RelV y u)
    (h : ∀ s', Inv X pins σ (upd H a (.ins C dx (putF f y fs))) s' → Q () s') : wpAny (model X.prog X.w) A (setAttr (.ref a) f u) Q E s := by
  obtain ⟨mA, O, r, wi, _, ho⟩ := ins_get I.hok e
  have hz : (fs.map (·.1)).length ≤ sizeLine := by rw [List.length_map, sizeLine_eq]; omega
  refine set_map I.kIn O c.sa c.po n.taker c.hd wi hz fun h' O' sb => h _ ?_
  have hd : ∃ o, h'.get? dx = some o := let ⟨o, _, _, e', _⟩ := O'.ns; ⟨o, e'⟩
  refine I.write (x := a) (e := dx) (by rw [e]; exact True.intro) (.inr ho) (fun b q hb z => (sb.2 b hb).trans z) hd ?_
  refine ⟨by rw [upd_ne O.ne]; exact ho, ?_, O.ne, O'.obj, _, O'.ns, fun g => ?_, fun g hg => ?_⟩
  · have := length_putF f y fs; omega
  · show RelO ((putF f y fs).lookup g) (if g = f then some u else mA g)
    rw [lookup_putF]
    by_cases q : g = f
    · rw [if_pos q, if_pos q]; exact ry
    · rw [if_neg q, if_neg q]; exact r g
  · by_cases q : g = f
    · rw [q]; exact (keys_putF f y fs).1
    · refine (keys_putF f y fs).2 g (wi g fun z => hg ?_)
      show (if g = f then some u else mA g) = none
      rw [if_neg q]; exact z


theorem Inv.made (I : Inv X pins σ H s) : Inv X pins σ (upd (upd H s.heap.objs.size (.own (s.heap.objs.size + 1))) (s.heap.objs.size + 1) (.ins C s.heap.objs.size []))
    { s with heap := (s.heap.push PySem.W.emptyDict).push (PySem.W.instObj C s.heap.objs.size) } := by
  have e1 : (s.heap.push PySem.W.emptyDict).get? s.heap.objs.size = some PySem.W.emptyDict := Heap.get?_push_size s.heap rfl
  have e2 : ((s.heap.push PySem.W.emptyDict).push (PySem.W.instObj C s.heap.objs.size)).get? (s.heap.objs.size + 1) = some (PySem.W.instObj C s.heap.objs.size) := by
    have := Heap.get?_push_size (s.heap.push PySem.W.emptyDict) (o := PySem.W.instObj C s.heap.objs.size) rfl
    rwa [Heap.size_push] at this
  have e3 : (s.heap.push PySem.W.emptyDict).Ns s.heap.objs.size (fun _ => none) := ⟨PySem.W.emptyDict, #[], _, e1, rfl, (fun e he => absurd he (by simp)), fun _ => rfl⟩
  have I1 := I.laid (a := s.heap.objs.size) (o := .own (s.heap.objs.size + 1)) (h' := s.heap.push PySem.W.emptyDict) (t' := s.toks) (fun b u q => Heap.get?_push_of_some _ q) (Nat.le_refl _) ⟨_, e1⟩
  refine I1.laid (a := s.heap.objs.size + 1) (o := .ins C s.heap.objs.size []) (t' := s.toks) (fun b u q => Heap.get?_push_of_some _ q) (Nat.le_of_eq (Heap.size_push _ _)) ?_
  have ne : s.heap.objs.size ≠ s.heap.objs.size + 1 := Nat.ne_of_lt (Nat.lt_succ_self _)
  refine ⟨by rw [upd_ne ne, upd_same], Nat.zero_le _, ne, e2, fun _ => none, (Heap.Ns1.of_empty e3).at fun o q => Heap.get?_push_of_some _ q, fun _ => True.intro, fun y hy => absurd rfl hy⟩


theorem attr_of {prog : Program} {w : World} {env : Env} {e : Expr} {f : Str} {pos : Pos} {s : Shared} {Q : Value → Shared → Prop} (hb : attributeBase e f env (eval e env) = eval e env)
    (h : wpAny (model prog w) A (eval e env) (fun o s₁ => wpAny (model prog w) A (getAttr o f true) Q E s₁) E s) : wpAny (model prog w) A (eval (.Attribute e f pos) env) Q E s :=
  Attribute_any_ h (by rw [arm_eval_Attribute, hb])
end



def tFld (K : PySem.W.Frag) (ta : TE) (f : Str) : TE := fun σ H Q => ta σ H fun x H1 => ∃ a C dx fs v, x = .ref a ∧ H1 a = some (.ins C dx fs) ∧ Cls K C ∧ NoAttr K C f ∧ fs.lookup f = some v ∧ Q v H1

def tCon (K : PySem.W.Frag) (ta : TE) (f : Str) : TE := fun σ H Q => ta σ H fun x H1 => ∃ a C dx fs v u, x = .ref a ∧ H1 a = some (.ins C dx fs) ∧ Cls K C ∧ Con K C f v u ∧ fs.lookup f = none ∧ Q v H1

def sFld (K : PySem.W.Frag) (ta tv : TE) (f : Str) : TS := fun D σ H => tv σ H fun y H1 => ta σ H1 fun x H2 => ∃ a C dx fs, x = .ref a ∧ H2 a = some (.ins C dx fs) ∧ Cls K C ∧ NoAttr K C f ∧ fs.length < 1000 ∧
  D.nx σ (upd H2 a (.ins C dx (putF f y fs)))

def InOp (X : Cx) (op : Operator) (rd : V → V → Hp → VK → Prop) : Prop :=
  ∀ (pins : List (Addr × Obj)) (s : Shared) (σ : St) (H : Hp) (x y : V) (u v : Value) (Q : VK), Inv X pins σ H s → RelV x u → RelV y v → rd x y H Q → wpAny (model X.prog X.w) X.A (inplaceOp op u v) (EP X pins σ Q) X.xe s

def sFldAug (K : PySem.W.Frag) (ta tv : TE) (rd : V → V → Hp → VK → Prop) (f : Str) : TS := fun D σ H => ta σ H fun x H1 => ∃ a C dx fs v, x = .ref a ∧ H1 a = some (.ins C dx fs) ∧ Cls K C ∧ NoAttr K C f ∧ fs.lookup f = some v ∧
  tv σ H1 fun y H2 => rd v y H2 fun z H3 => ∃ dx' fs', H3 a = some (.ins C dx' fs') ∧ fs'.length < 1000 ∧ D.nx σ (upd H3 a (.ins C dx' (putF f z fs')))

section
variable {X : Cx} {o e value : Expr} {f : Str} {pos pos' tpos : Pos} {ta tv : TE}
theorem pe_fld (he : PE X e ta) (hb : attributeBase e f X.env (eval e X.env) = eval e X.env) : PE X (.Attribute e f pos) (tFld X.K ta f) := by
  intro pins s σ H Q I h
  refine attr_of hb (thn (he pins s σ H _ I h) fun u s1 ⟨x, H1, I1, rx, a, C, dx, fs, v, ex, ea, c, n, l, q⟩ => ?_)
  subst ex
  obtain rfl : u = Value.ref a := rx
  exact getattr_ok I1 ea c n l fun u' s2 I2 ru => ⟨v, H1, I2, ru, q⟩
theorem ps_fld (ha : PE X o ta) (hv : PE X value tv) (hs : swapsWith value (some (.Attribute o f pos')) pos.line X.env = pure false) : PS X (.Assign [.Attribute o f pos'] value pos) (sFld X.K ta tv f) := by
  intro pins s σ H D I h
  refine plainObj_wpAny_Assign_Attribute (thn (hv pins s σ H _ I h) fun u s1 ⟨y, H1, I1, ry, q⟩ => thn (ha pins s1 σ H1 _ I1 q) fun ov s2 ⟨x, H2, I2, rx, a, C, dx, fs, ex, ea, c, n, l, q2⟩ => ?_) hs
  subst ex
  obtain rfl : ov = Value.ref a := rx
  exact setattr_ok I2 ea c n l ry fun s3 I3 => ⟨σ, _, I3, q2⟩
def rAdd : V → V → Hp → VK → Prop := fun x y H Q => ∃ i j, x = .int i ∧ y = .int j ∧ Q (.int (i + j)) H
def rSub : V → V → Hp → VK → Prop := fun x y H Q => ∃ i j, x = .int i ∧ y = .int j ∧ Q (.int (i - j)) H
end


section
variable {X : Cx} {pins : List (Addr × Obj)} {σ : St} {H : Hp} {s : Shared} {A : Around} {E : Value → Shared → Prop} {Q : Value → Shared → Prop} {c : Value} {b : Bool}

inductive TyOf (K : PySem.W.Frag) (H : Hp) : V → Value → Prop where
  | non : TyOf K H .non (.type "NoneType")
  | bl (x : Bool) : TyOf K H (.bl x) (.type "bool")
  | int (i : Int) : TyOf K H (.int i) (.type "int")
  | str (x : Str) : TyOf K H (.str x) (.type "str")
  | flt (x : UInt64) : TyOf K H (.flt x) (.type "float")
  | lst {a : Addr} {xs : List V} (e : H a = some (.lst xs)) : TyOf K H (.ref a) (.type "list")
  | frz {a : Addr} {o : Obj} {xs : List V} (e : H a = some (.frz o (.lst xs))) : TyOf K H (.ref a) (.type "list")
  | tup {a : Addr} {xs : List V} (e : H a = some (.tup xs)) : TyOf K H (.ref a) (.type "tuple")
  | dK {a : Addr} {kvs : List (Key × V)} (e : H a = some (.dK kvs)) : TyOf K H (.ref a) (.type "dict")
  | dT {a : Addr} {kvs : List (List Key × V)} (e : H a = some (.dT kvs)) : TyOf K H (.ref a) (.type "dict")
  | ins {a C dx : Addr} {fs : List (Str × V)} (e : H a = some (.ins C dx fs)) (cl : Cls K C) (ha : PySem.W.findIn K (.ref C) "__class__" = some (some (.builtin "object.__class__")))
      (hn : PySem.W.specialIn K (.builtin "object.__class__") "__get__" = some (some (.builtin "getset_descriptor.__get__"))) (htk : PySem.W.takesIn K (.builtin "object.__class__") = some true)
      (hm : PySem.W.mroIn K C (.type "object") = some true) : TyOf K H (.ref a) (.ref C)

theorem isinst_ok {x : V} {u t : Value} (I : Inv X pins σ H s) (rx : RelV x u) (ty : TyOf X.K H x t) (e : PySem.W.kitOne X.K t c = some b) (h : ∀ tk, Q (.bool b) { s with toks := tk }) :
    wpAny (model X.prog X.w) A (call (.builtin "isinstance") [u, c]) Q E s := by
  cases ty with
  | non => cases (show u = Value.none from rx); exact PySem.W.kia_one PySem.W.kitx_none I.kIn True.intro e (fun z => nomatch z) h
  | bl y => cases (show u = Value.bool y from rx); exact PySem.W.kia_one PySem.W.kitx_bool I.kIn True.intro e (fun z => nomatch z) h
  | int i => obtain ⟨t, q⟩ := (show ∃ t, u = Value.int i t from rx); cases q; exact PySem.W.kia_one PySem.W.kitx_int I.kIn True.intro e (fun z => nomatch z) h
  | str y => obtain ⟨t, q⟩ := (show ∃ t, u = Value.str y t from rx); cases q; exact PySem.W.kia_one PySem.W.kitx_str I.kIn True.intro e (fun z => nomatch z) h
  | flt y => obtain ⟨t, q⟩ := (show ∃ t, u = Value.float y t from rx); cases q; exact PySem.W.kia_one PySem.W.kitx_float I.kIn True.intro e (fun z => nomatch z) h
  | @lst a xs ea =>
    cases (show u = Value.ref a from rx)
    obtain ⟨_, _, n, _, h1⟩ := (show ObjOk X.prog X.w H s.heap a (.lst xs) from I.hok a _ ea)
    exact PySem.W.kia_one PySem.W.kitx_list I.kIn ⟨_, h1, rfl⟩ e (fun z => nomatch z) h
  | @frz a ob xs ea =>
    cases (show u = Value.ref a from rx)
    obtain ⟨_, _, _, n, _, h1⟩ := (show ObjOk X.prog X.w H s.heap a (.frz ob (.lst xs)) from I.hok a _ ea)
    exact PySem.W.kia_one PySem.W.kitx_list I.kIn ⟨_, h1, rfl⟩ e (fun z => nomatch z) h
  | @tup a xs ea =>
    cases (show u = Value.ref a from rx)
    obtain ⟨_, _, _, p⟩ := (show ObjOk X.prog X.w H s.heap a (.tup xs) from I.hok a _ ea)
    obtain ⟨o, h1, h2, _⟩ := p
    exact PySem.W.kia_one PySem.W.kitx_tuple I.kIn ⟨o, h1, h2⟩ e (fun z => nomatch z) h
  | @dK a kvs ea =>
    cases (show u = Value.ref a from rx)
    obtain ⟨_, _, vs, _, p⟩ := (show ObjOk X.prog X.w H s.heap a (.dK kvs) from I.hok a _ ea)
    obtain ⟨o, es, ep, h1, h2, _⟩ := p
    exact PySem.W.kia_one PySem.W.kitx_dict I.kIn ⟨o, h1, h2.1⟩ e (fun z => nomatch z) h
  | @dT a kvs ea =>
    cases (show u = Value.ref a from rx)
    obtain ⟨_, _, xs, _, o, es, ep, h1, h2, _⟩ := (show ObjOk X.prog X.w H s.heap a (.dT kvs) from I.hok a _ ea)
    exact PySem.W.kia_one PySem.W.kitx_dict I.kIn ⟨o, h1, h2.1⟩ e (fun z => nomatch z) h
  | @ins a C dx fs ea cl ha hn htk hm =>
    cases (show u = Value.ref a from rx)
    obtain ⟨mA, O, _⟩ := ins_get I.hok ea
    obtain ⟨od, J, _⟩ := O.look
    exact PySem.W.kia_one (PySem.W.kitx_own (cl.get _) cl.hd ha hn htk hm) I.kIn J e (fun z => nomatch z) h
end
end L2

namespace L2
open PySem PySem.Spec PyProof.Rows


structure Room (k : Nat) (A : Around) : Prop where
  hd : A.handled = none
  dp : A.depth + 3 * k + 5 < recursionLimit
  un : A.units + 16 * k + 200 < cLine
theorem Room.mono {j k : Nat} {A : Around} (r : Room k A) (h : j ≤ k) : Room j A := ⟨r.hd, by have := r.dp; omega, by have := r.un; omega⟩
theorem Room.deeper {k : Nat} {A : Around} (r : Room (k + 1) A) (env : Env) : Room k (A.deeper env) :=
  ⟨r.hd, by have := r.dp; show A.depth + 1 + 3 * k + 5 < _; omega, by have := r.un; show A.units + 3 + 16 * k + 200 < _; omega⟩
theorem Room.in1 {k : Nat} {A : Around} (r : Room (k + 1) A) : Room k A.in1 :=
  ⟨r.hd, by have := r.dp; show A.depth + 3 * k + 5 < _; omega, by have := r.un; show A.units + 1 + 16 * k + 200 < _; omega⟩
theorem make_depth {A : Around} {C : Addr} {us : List Value} {kw : List (Str × Value)} : (A.under (.builtin "type.__call__" ⟨.ref C :: us, kw⟩)).depth = A.depth + 1 := by
  first | rfl | simp [Around.under, Code.weight, Code.isCreation, Code.isGuard, Code.isCaller, Code.frames, Code.isFrame, guardIds]
theorem make_units {A : Around} {C : Addr} {us : List Value} {kw : List (Str × Value)} : (A.under (.builtin "type.__call__" ⟨.ref C :: us, kw⟩)).units = A.units + 1 := by
  first | rfl | simp [Around.under, Code.cUnits, Code.frames, Code.isFrame]
theorem Room.make {k : Nat} {A : Around} (r : Room (k + 1) A) (C : Addr) (us : List Value) (kw : List (Str × Value)) : Room k (A.under (.builtin "type.__call__" ⟨.ref C :: us, kw⟩)) :=
  ⟨r.hd, by have := r.dp; rw [make_depth]; omega, by have := r.un; rw [make_units]; omega⟩
theorem Room.depth {k : Nat} {A : Around} (r : Room k A) : A.depth < recursionLimit := by have := r.dp; omega
theorem Room.units {k : Nat} {A : Around} (r : Room k A) : A.units + 64 < cLine := by have := r.un; omega
def tNil : TA := fun _ H Q => Q [] H
def tCons (ta : TE) (tr : TA) : TA := fun σ H Q => ta σ H fun x H1 => tr σ H1 fun xs H2 => Q (x :: xs) H2
section
variable {X : Cx} {e : Expr} {es : List Expr} {te : TE} {t : TA} {pos : Pos}
theorem pa_nil : PA X [] tNil := fun _ _ _ _ H Q I h => Calls.spliced_nil ⟨[], H, I, .nil, h⟩
theorem pa_cons (ha : PE X e te) (hr : PA X es t) (hs : starEach (e :: es) X.env = (false, eval e X.env) :: starEach es X.env := by rfl) : PA X (e :: es) (tCons te t) := by
  intro pos pins s σ H Q I h
  rw [hs]
  show wpAny _ _ (spliced ((false, eval e X.env) :: backTo pos (starEach es X.env))) _ _ s
  refine Calls.spliced_cons (thn (ha pins s σ H _ I h) fun u s1 ⟨x, H1, I1, r1, q1⟩ => ?_)
  exact thn (hr pos pins s1 σ H1 _ I1 q1) fun us s2 ⟨xs, H2, I2, r2, q2⟩ => ⟨x :: xs, H2, I2, .cons r1 r2, q2⟩


def tTup (t : TA) : TE := fun σ H Q => t σ H fun xs H1 => xs.length ≤ sizeLine ∧ ∀ p, H1 p = none → Q (.ref p) (upd H1 p (.tup xs))
def tLst (t : TA) : TE := fun σ H Q => t σ H fun xs H1 => xs.length ≤ sizeLine ∧ ∀ p, H1 p = none → Q (.ref p) (upd H1 p (.lst xs))
theorem pe_tup {x1} (h : PA X es t) : PE X (.Tuple es x1 pos) (tTup t) := by
  intro pins s σ H Q I hq
  refine wpAny_Tuple_spliced (thn (h pos pins s σ H _ I hq) fun us s1 ⟨xs, H1, I1, r, z, q⟩ => ⟨by rw [← r.length]; exact z, ?_⟩)
  have hf : H1 s1.heap.objs.size = none := I1.hok.fresh (Nat.le_refl _)
  refine ⟨.ref s1.heap.objs.size, upd H1 s1.heap.objs.size (.tup xs), I1.laid (t' := s1.toks) (fun b u e => Heap.get?_push_of_some _ e) (Nat.le_refl _) ?_, rfl, q _ hf⟩
  exact ⟨z, us, r, ⟨_, Heap.get?_push_size _ rfl, rfl, _, rfl⟩⟩
theorem pe_lst (h : PA X es t) : PE X (.List es pos) (tLst t) := by
  intro pins s σ H Q I hq
  refine wpAny_List_spliced (thn (h pos pins s σ H _ I hq) fun us s1 ⟨xs, H1, I1, r, z, q⟩ => ⟨by rw [← r.length]; exact z, ?_⟩)
  have hf : H1 s1.heap.objs.size = none := I1.hok.fresh (Nat.le_refl _)
  refine ⟨.ref s1.heap.objs.size, upd H1 s1.heap.objs.size (.lst xs), I1.laid (t' := s1.toks) (fun b u e => Heap.get?_push_of_some _ e) (Nat.le_refl _) ?_, rfl, q _ hf⟩
  exact ⟨z, us, 0, r, Heap.get?_push_size _ rfl⟩
end



abbrev Sp := List V → Hp → VK → XK → Prop

abbrev CXT := List Env → Hp → Shared → XK → Value → Shared → Prop


structure Env0 (P : Program) (w : World) (K : PySem.W.Frag) (mg : Str → Option Value) (base : Heap) (A : Around) (outer : List Env) (s : Shared) (H : Hp) : Prop where
  frames : A.frames = some outer
  mod : Mod K mg base
  bs : ∀ b o, base.get? b = some o → s.heap.get? b = some o ∧ H b = none
  bsz : base.objs.size ≤ s.heap.objs.size
  funs : s.heap.FunFrames base outer
  frf : ∀ b ∈ frs outer, H b = none
  hok : HOk P w H s.heap
  bare : AllBare s.gens

def CE (outer : List Env) (P : Program) (w : World) (H : Hp) (s : Shared) (Q : VK) (u : Value) (s' : Shared) : Prop :=
  ∃ v H', s'.os = s.os ∧ AllBare s'.gens ∧ Un (frs outer) [] H H' s.heap s'.heap ∧ HOk P w H' s'.heap ∧ RelV v u ∧ Q v H'
def CR (CX : CXT) (outer : List Env) (P : Program) (w : World) (H : Hp) (s : Shared) (Q : VK) (E : XK) (r : Result) (s' : Shared) : Prop :=
  match r with
  | .ok (.ret u) => CE outer P w H s Q u s'
  | .ok _ => False
  | .error e => CX outer H s E e s'
structure FnOk (P : Program) (w : World) (K : PySem.W.Frag) (mg : Str → Option Value) (base : Heap) (CX : CXT) (k : Nat) (f : Addr) (fd : FuncData) (ps : List Str) (sp : Sp) : Prop where
  len : ∀ vs H Q E, sp vs H Q E → vs.length = ps.length
  run : ∀ (A : Around) (outer : List Env) (s : Shared) (H : Hp) (args : Args) (us : List Value) (vs : List V) (Q : VK) (E : XK), Room k A → Env0 P w K mg base A outer s H → BindsTo s fd args (ps.zip us) → Vals vs us → sp vs H Q E →
    codeAny (model P w) A (.call (.ref f) args) (CR CX outer P w H s Q E) s
theorem FnOk.mono {P : Program} {w : World} {K : PySem.W.Frag} {mg : Str → Option Value} {base : Heap} {CX : CXT} {j k : Nat} {f : Addr} {fd : FuncData} {ps : List Str} {sp : Sp} (F : FnOk P w K mg base CX j f fd ps sp) (h : j ≤ k) :
    FnOk P w K mg base CX k f fd ps sp := ⟨F.len, fun A outer s H args us vs Q E hr => F.run A outer s H args us vs Q E (hr.mono h)⟩

theorem Env0.make {P : Program} {w : World} {K : PySem.W.Frag} {mg : Str → Option Value} {base : Heap} {A : Around} {outer : List Env} {s : Shared} {H : Hp} (e : Env0 P w K mg base A outer s H) (C : Addr) (us : List Value) (kw : List (Str × Value)) :
    Env0 P w K mg base (A.under (.builtin "type.__call__" ⟨.ref C :: us, kw⟩)) outer s H := ⟨by first | exact e.frames | (simpa [Around.under, Code.envs, Code.isFrame, pushEnvs] using e.frames), e.mod, e.bs, e.bsz, e.funs, e.frf, e.hok, e.bare⟩
theorem Env0.in1 {P : Program} {w : World} {K : PySem.W.Frag} {mg : Str → Option Value} {base : Heap} {A : Around} {outer : List Env} {s : Shared} {H : Hp} (e : Env0 P w K mg base A outer s H) :
    Env0 P w K mg base A.in1 outer s H := ⟨e.frames, e.mod, e.bs, e.bsz, e.funs, e.frf, e.hok, e.bare⟩

section
variable {X : Cx} {pins : List (Addr × Obj)} {σ : St} {H : Hp} {s s' : Shared}

theorem Inv.env0 (I : Inv X pins σ H s) : Env0 X.prog X.w X.K X.mg X.base X.A X.stack s H :=
  ⟨I.ok.frames, I.ok.mod, I.bs, Nat.le_trans I.ok.bsz I.sz, I.stack, I.stkFree, I.hok, I.bare⟩

theorem Inv.after {Q : VK} {u : Value} (I : Inv X pins σ H s) (h : CE X.stack X.prog X.w H s Q u s') : EP X pins σ Q u s' := by
  obtain ⟨v, H', os, bare, un, hok, r, q⟩ := h
  obtain ⟨hh, g, d, t, os'⟩ := s'
  obtain rfl : os' = s.os := os
  exact ⟨v, H', I.call (h' := hh) (g' := g) (d' := d) (t' := t) (ch := []) un hok bare (fun b z => absurd z (by simp)), r, q⟩
end



def tCall (sp : Sp) (dvs : List V) (E : XK) (t : TA) : TE := fun σ H Q => t σ H fun vs H1 => sp (vs ++ dvs) H1 Q E

def tMeth (C : Addr) (m : Str) (sp : Sp) (dvs : List V) (E : XK) (ta : TE) (t : TA) : TE := fun σ H Q => ta σ H fun x H1 => ∃ a dx fs, x = .ref a ∧ H1 a = some (.ins C dx fs) ∧ fs.lookup m = none ∧
  t σ H1 fun vs H2 => sp (x :: (vs ++ dvs)) H2 Q E

def tMake (C : Addr) (sp : Sp) (dvs : List V) (E : XK) (t : TA) : TE := fun σ H Q => t σ H fun vs H1 => ∀ x dx, H1 x = none → H1 dx = none → dx ≠ x →
  sp (.ref x :: (vs ++ dvs)) (upd (upd H1 dx (.own x)) x (.ins C dx [])) (fun v H2 => v = .non ∧ Q (.ref x) H2) E


def Binds (K : PySem.W.Frag) (fd : FuncData) (ps : List Str) (ds : List Value) : Prop :=
  ∀ (s : Shared) (us : List Value), K.In s.heap → (us ++ ds).length = ps.length → BindsTo s fd ⟨us, []⟩ (ps.zip (us ++ ds))

theorem Binds.all {K : PySem.W.Frag} {fd : FuncData} {ps : List Str} (h : ∀ us : List Value, us.length = ps.length → bindArgs fd ⟨us, []⟩ = pure (ps.zip us)) : Binds K fd ps [] := fun s us _ hl => by
  rw [List.append_nil] at hl ⊢
  exact .of_eq (h us hl)


def Passes (CX : CXT) (X : Cx) (E : XK) : Prop := ∀ (pins : List (Addr × Obj)) (σ : St) (H : Hp) (s : Shared) (e : Value) (s' : Shared), Inv X pins σ H s → CX X.stack H s E e s' → X.xe e s'

section
variable {X : Cx} {CX : CXT} {k : Nat} {f C : Addr} {fd : FuncData} {ps : List Str} {sp : Sp} {dvs : List V} {ds : List Value} {E : XK} {x m : Str} {p pos apos : Pos} {e o : Expr} {es : List Expr} {ta : TE} {t : TA}


theorem run_fn {pins : List (Addr × Obj)} {σ : St} {H : Hp} {s : Shared} {Q : VK} {us : List Value} {vs : List V} (F : FnOk X.prog X.w X.K X.mg X.base CX k f fd ps sp) (hr : Room k X.A) (hb : Binds X.K fd ps ds) (hd : Vals dvs ds) (hx : Passes CX X E)
    (I : Inv X pins σ H s) (r : Vals vs us) (h : sp (vs ++ dvs) H Q E) : wpAny (model X.prog X.w) X.A (call (.ref f) us) (EP X pins σ Q) X.xe s := by
  have r2 : Vals (vs ++ dvs) (us ++ ds) := r.append hd
  have hl : (us ++ ds).length = ps.length := by rw [← r2.length]; exact F.len _ _ _ _ h
  refine wpAny_call (codeAny_mono (F.run X.A X.stack s H ⟨us, []⟩ (us ++ ds) (vs ++ dvs) Q E hr I.env0 (hb s us I.kIn hl) r2 h) fun r s' hq => ?_)
  cases r with
  | error e => exact hx pins σ H s e s' I hq
  | ok fl =>
    cases fl with
    | ret u => exact I.after hq
    | next => exact False.elim hq
    | brk => exact False.elim hq
    | cont => exact False.elim hq

theorem pe_call (F : FnOk X.prog X.w X.K X.mg X.base CX k f fd ps sp) (hr : Room k X.A) (hg : Gl X x) (hm : X.mg x = some (.ref f)) (hk : PySem.W.keepIn X.K (.ref f) = true) (hb : Binds X.K fd ps ds) (hd : Vals dvs ds) (hx : Passes CX X E)
    (ha : PA X (e :: es) t) (hdb : (x == ("__debug__" : Str)) = false := by decide) (he : starEach (e :: es) X.env = (false, eval e X.env) :: starEach es X.env := by rfl) (hpl : (backTo pos (starEach es X.env)).any (·.1) = false := by rfl) :
    PE X (.Call (.Name x p) (e :: es) [] pos) (tCall sp dvs E t) := by
  intro pins s σ H Q I h
  refine wpAny_Call_Name_kw (ld_glob I hg hm ?_ hdb)
  refine PySem.W.callWith_K (h₀ := X.base) I.ok.mod.kin hk (thn (ha pos pins s σ H _ I h) fun us s1 ⟨vs, H1, I1, r, q⟩ => ⟨I1.kIn, ?_⟩) he hpl
  exact run_fn F hr hb hd hx I1 r q
theorem pe_meth {pl : Sem Bool} (he : PE X o ta) (c : Cls X.K C) (hm : Meth X.K C m f) (F : FnOk X.prog X.w X.K X.mg X.base CX k f fd ps sp) (hr : Room k X.A) (hb : Binds X.K fd ps ds) (hd : Vals dvs ds) (hx : Passes CX X E) (ha : PA X (e :: es) t)
    (hst : starEach (e :: es) X.env = (false, eval e X.env) :: starEach es X.env := by rfl) (hpl : (backTo pos (starEach es X.env)).any (·.1) = false := by rfl)
    (ht : eval (.Call (.Attribute o m apos) (e :: es) [] pos) X.env = (do
      let ov ← eval o X.env
      standAt apos.atName
      let (f, first) ← holding [ov] (getMethod ov m pl)
      callWith pos f first (backTo pos (starEach (e :: es) X.env)) (backToKw pos (keywordEach [] X.env))) := by rfl) :
    PE X (.Call (.Attribute o m apos) (e :: es) [] pos) (tMeth C m sp dvs E ta t) := by
  intro pins s σ H Q I h
  refine PySem.W.methodCall_KW (pl := pl) (thn (he pins s σ H _ I h) fun u s1 ⟨x, H1, I1, rx, a, dx, fs, ex, ea, l, q⟩ => ?_) ht
  subst ex
  obtain rfl : u = Value.ref a := rx
  refine getmeth_ok I1 ea c hm l ?_
  refine PySem.W.callWith_K (first := [.ref a]) (h₀ := X.base) I.ok.mod.kin hm.kp (thn (ha pos pins s1 σ H1 _ I1 q) fun us s2 ⟨vs, H2, I2, r, q2⟩ => ⟨I2.kIn, ?_⟩) hst hpl
  exact run_fn (us := .ref a :: us) (vs := .ref a :: vs) F hr hb hd hx I2 (.cons rfl r) q2

theorem pe_meth0 {pl : Sem Bool} (he : PE X o ta) (c : Cls X.K C) (hm : Meth X.K C m f) (F : FnOk X.prog X.w X.K X.mg X.base CX k f fd ps sp) (hr : Room k X.A) (hb : Binds X.K fd ps ds) (hd : Vals dvs ds) (hx : Passes CX X E)
    (ht : eval (.Call (.Attribute o m apos) [] [] pos) X.env = (do
      let ov ← eval o X.env
      standAt apos.atName
      let (f, first) ← holding [ov] (getMethod ov m pl)
      callWith pos f first (backTo pos (starEach [] X.env)) (backToKw pos (keywordEach [] X.env))) := by rfl) :
    PE X (.Call (.Attribute o m apos) [] [] pos) (tMeth C m sp dvs E ta tNil) := by
  intro pins s σ H Q I h
  refine PySem.W.methodCall_KW (pl := pl) (thn (he pins s σ H _ I h) fun u s1 ⟨x, H1, I1, rx, a, dx, fs, ex, ea, l, q⟩ => ?_) ht
  subst ex
  obtain rfl : u = Value.ref a := rx
  refine getmeth_ok I1 ea c hm l ?_
  exact PySem.W.callWith_K0 (first := [.ref a]) I1.kIn hm.kp (run_fn (us := [.ref a]) (vs := [.ref a]) F hr hb hd hx I1 (.cons rfl .nil) q)


structure Mk (K : PySem.W.Frag) (C f : Addr) : Prop where
  makes : PySem.W.makesIn K C = true
  init : PySem.W.findIn K (.ref C) "__init__" = some (some (.ref f))
  fn : PySem.W.isFn K (.ref f) = true
  kp : PySem.W.keepIn K (.ref C) = true

theorem run_make {pins : List (Addr × Obj)} {σ : St} {H : Hp} {s : Shared} {Q : VK} {us : List Value} {vs : List V} (M : Mk X.K C f) (F : FnOk X.prog X.w X.K X.mg X.base CX k f fd ps sp) (hr : Room (k + 1) X.A) (hb : Binds X.K fd ps ds) (hd : Vals dvs ds)
    (hx : Passes CX X E) (I : Inv X pins σ H s) (r : Vals vs us)
    (h : ∀ x dx, H x = none → H dx = none → dx ≠ x → sp (.ref x :: (vs ++ dvs)) (upd (upd H dx (.own x)) x (.ins C dx [])) (fun v H2 => v = .non ∧ Q (.ref x) H2) E) :
    wpAny (model X.prog X.w) X.A (call (.ref C) us) (EP X pins σ Q) X.xe s := by
  have hq := h (s.heap.objs.size + 1) s.heap.objs.size (I.hok.fresh (Nat.le_succ _)) (I.hok.fresh (Nat.le_refl _)) (Nat.ne_of_lt (Nat.lt_succ_self _))
  have I2 := Inv.made (C := C) I
  have r2 : Vals (V.ref (s.heap.objs.size + 1) :: (vs ++ dvs)) (Value.ref (s.heap.objs.size + 1) :: (us ++ ds)) := .cons rfl (r.append hd)
  have hl : (Value.ref (s.heap.objs.size + 1) :: us ++ ds).length = ps.length := by
    have e := r2.length
    rw [F.len _ _ _ _ hq] at e
    exact e.symm
  refine wpAny_call (make_map (f := f) I.kIn M.makes M.init (beq_iff_eq.mp M.fn) (codeAny_mono (F.run _ X.stack _ _ ⟨Value.ref (s.heap.objs.size + 1) :: us, []⟩ (Value.ref (s.heap.objs.size + 1) :: (us ++ ds)) _ _ E (hr.make C us [])
    (I2.env0.make C us []) (hb _ (Value.ref (s.heap.objs.size + 1) :: us) I2.kIn hl) r2 hq) fun r s' hq' => ?_))
  cases r with
  | error e => exact hx pins σ _ _ e s' I2 hq'
  | ok fl =>
    cases fl with
    | ret u =>
      obtain ⟨v, H', I3, rv, ev, q3⟩ := I2.after hq'
      subst ev
      exact ⟨rv, ⟨V.ref (s.heap.objs.size + 1), H', I3, rfl, q3⟩⟩
    | next => exact False.elim hq'
    | brk => exact False.elim hq'
    | cont => exact False.elim hq'
theorem pe_make (M : Mk X.K C f) (F : FnOk X.prog X.w X.K X.mg X.base CX k f fd ps sp) (hr : Room (k + 1) X.A) (hg : Gl X x) (hm : X.mg x = some (.ref C)) (hb : Binds X.K fd ps ds) (hd : Vals dvs ds) (hx : Passes CX X E)
    (ha : PA X (e :: es) t) (hdb : (x == ("__debug__" : Str)) = false := by decide) (he : starEach (e :: es) X.env = (false, eval e X.env) :: starEach es X.env := by rfl) (hpl : (backTo pos (starEach es X.env)).any (·.1) = false := by rfl) :
    PE X (.Call (.Name x p) (e :: es) [] pos) (tMake C sp dvs E t) := by
  intro pins s σ H Q I h
  refine wpAny_Call_Name_kw (ld_glob I hg hm ?_ hdb)
  refine PySem.W.callWith_K (h₀ := X.base) I.ok.mod.kin M.kp (thn (ha pos pins s σ H _ I h) fun us s1 ⟨vs, H1, I1, r, q⟩ => ⟨I1.kIn, ?_⟩) he hpl
  exact run_make M F hr hb hd hx I1 r q
end



def PK (X : Cx) (kws : List Keyword) (t : TA) : Prop :=
  ∀ (pos : Pos) (pins : List (Addr × Obj)) (s : Shared) (σ : St) (H : Hp) (Q : List V → Hp → Prop), Inv X pins σ H s → t σ H Q → wpAny (model X.prog X.w) X.A (evalAll ((backToKw pos (keywordEach kws X.env)).map (·.2))) (AP X pins σ Q) X.xe s
section
variable {X : Cx} {CX : CXT} {k : Nat} {f C : Addr} {fd : FuncData} {ps ks : List Str} {sp : Sp} {E : XK} {x m : Str} {p pos apos kpos : Pos} {e o : Expr} {es : List Expr} {kws : List Keyword} {te ta : TE} {t tk : TA} {nm : Option Str}
structure KBinds (K : PySem.W.Frag) (fd : FuncData) (ps ks : List Str) (g : List Value → List Value → List Value) (gV : List V → List V → List V) : Prop where
  to : ∀ (s : Shared) (us ws : List Value), K.In s.heap → (g us ws).length = ps.length → BindsTo s fd ⟨us, ks.zip ws⟩ (ps.zip (g us ws))
  rel : ∀ {vs : List V} {us : List Value} {zs : List V} {ws : List Value}, Vals vs us → Vals zs ws → Vals (gV vs zs) (g us ws)
def tCallK (sp : Sp) (gV : List V → List V → List V) (E : XK) (t tk : TA) : TE := fun σ H Q => t σ H fun vs H1 => tk σ H1 fun zs H2 => sp (gV vs zs) H2 Q E
variable {g : List Value → List Value → List Value} {gV : List V → List V → List V}
end



structure FnScope (N P : List Str) (sc : Scope) : Prop where
  kind : sc.kind = .function
  co : sc.isCoroutine = false
  gen : sc.isGenerator = false
  nd : N.Nodup
  pre : N.take P.length = P
  par : ∀ x ∈ P, sc.names.lookup x = some .local ∨ sc.names.lookup x = some .cell
  nofree : ∀ y ∈ sc.names, y.2 ≠ .free

theorem bindL_out {kindOf : Str → Option NameKind} {x : Str} : ∀ {binds : List (Str × Value)} {m : Str → Option Value}, (∀ v, (x, v) ∉ binds) → bindL kindOf binds m x = m x
  | [], _, _ => rfl
  | (n, v) :: r, m, h => by
    unfold bindL
    rw [bindL_out fun w hw => h w (List.mem_cons_of_mem _ hw)]
    split
    · have : x ≠ n := by rintro rfl; exact h v List.mem_cons_self
      simp [this]
    · rfl
theorem bindC_out {kindOf : Str → Option NameKind} {x : Str} : ∀ {binds : List (Str × Value)} {m : Str → Option Value}, (∀ v, (x, v) ∉ binds) → bindC kindOf binds m x = m x
  | [], _, _ => rfl
  | (n, v) :: r, m, h => by
    unfold bindC
    rw [bindC_out fun w hw => h w (List.mem_cons_of_mem _ hw)]
    split
    · rfl
    · have : x ≠ n := by rintro rfl; exact h v List.mem_cons_self
      simp [this]
theorem bindL_get {kindOf : Str → Option NameKind} {x : Str} {v : Value} : ∀ {P : List Str} {vs : List Value} {i : Nat} {m : Str → Option Value}, P.Nodup → P[i]? = some x → vs[i]? = some v → kindOf x = some .local →
    bindL kindOf (P.zip vs) m x = some v
  | [], _, _, _, _, h, _, _ => by simp at h
  | _ :: _, [], _, _, _, _, h, _ => by simp at h
  | p :: P, w :: vs, 0, m, nd, h1, h2, hk => by
    simp at h1 h2; subst h1; subst h2
    show bindL kindOf ((p, w) :: P.zip vs) m p = _
    unfold bindL
    rw [bindL_out fun v hv => (List.nodup_cons.mp nd).1 (List.of_mem_zip hv).1, if_pos hk]
    simp
  | p :: P, w :: vs, i + 1, m, nd, h1, h2, hk => by
    show bindL kindOf ((p, w) :: P.zip vs) m x = _
    unfold bindL
    exact bindL_get (i := i) (List.nodup_cons.mp nd).2 (by simpa using h1) (by simpa using h2) hk
theorem bindC_get {kindOf : Str → Option NameKind} {x : Str} {v : Value} : ∀ {P : List Str} {vs : List Value} {i : Nat} {m : Str → Option Value}, P.Nodup → P[i]? = some x → vs[i]? = some v → kindOf x ≠ some .local →
    bindC kindOf (P.zip vs) m x = some v
  | [], _, _, _, _, h, _, _ => by simp at h
  | _ :: _, [], _, _, _, _, h, _ => by simp at h
  | p :: P, w :: vs, 0, m, nd, h1, h2, hk => by
    simp at h1 h2; subst h1; subst h2
    show bindC kindOf ((p, w) :: P.zip vs) m p = _
    unfold bindC
    rw [bindC_out fun v hv => (List.nodup_cons.mp nd).1 (List.of_mem_zip hv).1, if_neg hk]
    simp
  | p :: P, w :: vs, i + 1, m, nd, h1, h2, hk => by
    show bindC kindOf ((p, w) :: P.zip vs) m x = _
    unfold bindC
    exact bindC_get (i := i) (List.nodup_cons.mp nd).2 (by simpa using h1) (by simpa using h2) hk


def start (N : List Str) (vs : List V) : St := vs.map some ++ List.replicate (N.length - vs.length) none


def cxOf (CX : CXT) (P : Program) (w : World) (K : PySem.W.Frag) (mg : Str → Option Value) (base : Heap) (N : List Str) (qual : Str) (scope : Scope) (f : Addr) (cd : Value) (A : Around) (outer : List Env) (s : Shared) (H : Hp) (E : XK) : Cx where
  prog := P
  w := w
  K := K
  mg := mg
  base := base
  A := A.deeper (envOfC qual scope s.heap.objs.size f cd)
  N := N
  s₀ := s
  H₀ := H
  env := envOfC qual scope s.heap.objs.size f cd
  outer := outer
  stack := envOfC qual scope s.heap.objs.size f cd :: outer
  ex := []
  calm := true
  fn := fun _ => true
  pn := []
  xe := fun e s' => wpAny (model P w) (A.deeper (envOfC qual scope s.heap.objs.size f cd)) (leaving (envOfC qual scope s.heap.objs.size f cd) e) (fun _ s'' => CX outer H s E e s'') (fun e' s'' => CX outer H s E e' s'') s'

theorem cell_has {sc : Scope} {n : Nat} {x : Str} (h : sc.names.lookup x = some .cell) : ∃ c, (cellsFrom n sc.names []).lookup x = some c := by
  have q := PySem.W.cellsFrom_some sc.names n [] (.inl h)
  exact Option.isSome_iff_exists.mp q

theorem inv_start {CX : CXT} {P : Program} {w : World} {K : PySem.W.Frag} {mg : Str → Option Value} {base : Heap} {N ps : List Str} {qual : Str} {scope : Scope} {f : Addr} {cd : Value} {A : Around} {outer : List Env} {s s1 : Shared} {H : Hp} {E : XK} {us : List Value} {vs : List V}
    (S : FnScope N ps scope) (hd : A.handled = none) (e0 : Env0 P w K mg base A outer s H) (hl : vs.length = ps.length) (r : Vals vs us)
    (x : InCallC s s.heap.objs.size (bindL (envOfC qual scope s.heap.objs.size f cd).kindOf (ps.zip us) fun _ => none) (cellsFrom (s.heap.objs.size + 1) scope.names []) (bindC (envOfC qual scope s.heap.objs.size f cd).kindOf (ps.zip us) fun _ => none) s1) :
    Inv (cxOf CX P w K mg base N qual scope f cd A outer s H E) [] (start N vs) H s1 := by
  have hpl : ps.length ≤ N.length := by have := congrArg List.length S.pre; rw [List.length_take] at this; omega
  obtain ⟨h1, tk, rfl, hk⟩ := x.done
  have noA : ∀ b : Addr, b ∉ (cxOf CX P w K mg base N qual scope f cd A outer s H E).ex := fun b z => absurd (show b ∈ ([] : List Addr) from z) (by simp)
  refine ⟨⟨e0.mod, S.kind, rfl, rfl, Nat.le_refl _, fun y z c h1 h2 => ?_, fun y hy => ?_, fun y c _ h => ?_, fun _ => hd, Around.frames_deeper e0.frames, .inr ⟨rfl, rfl⟩, fun b z => absurd z (noA b), e0.bs, e0.bsz, fun b _ _ => noA b, fun b z => absurd z (noA b), e0.funs, e0.frf⟩,
    rfl, e0.bare, Un.kept hk, ⟨_, x.toInCall.ns, fun i y v h1 h2 h3 => ?_⟩, fun y c h => ⟨_, x.cell y c h⟩, e0.hok.fresh (Nat.le_refl _), fun y c h => ?_, fun p hp => absurd (show p ∈ ([] : List (Addr × Obj)) from hp) (by simp), e0.hok.kept hk, ?_⟩
  · exact name_of_addr x.apart (PySem.mem_of_lookup h1) (PySem.mem_of_lookup h2)
  · have hy : scope.names.lookup y = some .cell ∨ scope.names.lookup y = some .free := hy
    rcases hy with hy | hy
    · exact cell_has hy
    · exact absurd rfl (S.nofree _ (PySem.mem_of_lookup hy))
  · exact Nat.le_of_lt (x.above y c (PySem.mem_of_lookup h))
  · have hi : i < vs.length := by
      unfold start at h2
      by_cases hi : i < vs.length
      · exact hi
      · rw [List.getElem?_append_right (by simpa using hi)] at h2
        rw [List.getElem?_replicate] at h2
        split at h2 <;> cases h2
    have ha : vs[i]? = some v := by
      unfold start at h2
      rw [List.getElem?_append_left (by simpa using hi), List.getElem?_map] at h2
      cases e : vs[i]? with
      | none => rw [e] at h2; cases h2
      | some a => rw [e] at h2; cases h2; rfl
    obtain ⟨u, hu, rv⟩ := r.get ha
    have hp : ps[i]? = some y := by
      rw [← S.pre, List.getElem?_take_of_lt (by omega)]; exact h1
    have ndP : ps.Nodup := by rw [← S.pre]; exact S.nd.sublist (List.take_sublist _ _)
    refine ⟨u, rv, ?_⟩
    rcases S.par y (List.mem_of_getElem? hp) with k | k
    · exact .inl ⟨k, bindL_get ndP hp hu k⟩
    · obtain ⟨c, e⟩ := cell_has (n := s.heap.objs.size + 1) k
      refine .inr ⟨.inl k, c, e, ?_⟩
      have q := x.cell y c e
      rw [bindC_get ndP hp hu (by show scope.names.lookup y ≠ _; rw [k]; decide)] at q
      exact q
  · exact e0.hok.fresh (Nat.le_of_lt (x.above y c (PySem.mem_of_lookup h)))
  · unfold start
    show _ = N.length
    rw [List.length_append, List.length_map, List.length_replicate]
    omega


theorem fn_of {CX : CXT} {P : Program} {w : World} {K : PySem.W.Frag} {mg : Str → Option Value} {base : Heap} {k : Nat} {f : Addr} {name qual : Str} {params : Arguments} {body : List Stmt} {scope : Scope} {dV kV doc pm cdv ct oc : Value} {an od : Option Addr}
    {osl : Array (Option Value)} {N ps : List Str} {sp : Sp} (lk : K.lookup f = some ⟨oc, od, .func (PySem.W.fnOf name qual params body scope dV kV doc pm an cdv ct), osl⟩) (hcd : PySem.W.codeIn K cdv qual = true) (S : FnScope N ps scope)
    (len : ∀ vs H Q E, sp vs H Q E → vs.length = ps.length)
    (hbody : ∀ (A : Around) (outer : List Env) (s : Shared) (H : Hp) (vs : List V) (Q : VK) (E : XK), Room k (A.deeper (envOfC qual scope s.heap.objs.size f cdv)) → sp vs H Q E →
      ∃ t, PSs (cxOf CX P w K mg base N qual scope f cdv A outer s H E) body t ∧ t { nx := fun _ H' => Q .non H', rt := Q } (start N vs) H) :
    FnOk P w K mg base CX (k + 1) f (PySem.W.fnOf name qual params body scope dV kV doc pm an cdv ct) ps sp := by
  refine ⟨len, fun A outer s H args us vs Q E hr e0 hb r hsp => ?_⟩
  have hl := len _ _ _ _ hsp
  have KX : K.In s.heap := e0.mod.kin.keeps fun b o e => (e0.bs b o e).1
  have lim : s.heap.NoLimit := e0.mod.nolimit.keeps fun b o e => (e0.bs b o e).1
  have hkind : ∀ y ∈ ps.zip us, scope.names.lookup y.1 = some .local ∨ (scope.names.lookup y.1 = some .cell ∧ ((cellsFrom (s.heap.objs.size + 1) scope.names []).lookup y.1).isSome = true) := fun ⟨n, v⟩ hy => by
    rcases S.par n (List.of_mem_zip hy).1 with q | q
    · exact .inl q
    · exact .inr ⟨q, PySem.W.cellsFrom_some _ _ _ (.inl q)⟩
  refine codeAny_call_function hr.depth (KX _ _ lk) rfl S.co S.gen rfl (PySem.W.codeRec_of KX hcd) (hb _ _ _ _ ?_)
  refine wpAny_newFunctionEnv_cells S.kind hkind fun env he s1 x => ?_
  subst he
  refine ⟨lim.keeps x.toInCall.keep, codeAny_func ?_⟩
  obtain ⟨t, ht, hq⟩ := hbody A outer s H vs Q E (hr.deeper _) hsp
  have I : Inv (cxOf CX P w K mg base N qual scope f cdv A outer s H E) [] (start N vs) H s1 := inv_start S hr.hd e0 hl r x
  refine wpAny_mono (ht [] s1 (start N vs) H _ I hq) (fun fl s' hs => ?_) fun e s' hs => hs
  have fin : ∀ {σ' : St} {H' : Hp} {v : V} {u : Value}, Inv (cxOf CX P w K mg base N qual scope f cdv A outer s H E) [] σ' H' s' → RelV v u → Q v H' → CE outer P w H s Q u s' :=
    fun {σ' H' v u} J rv q => ⟨v, H', J.os, J.bare, J.base, J.hok, rv, q⟩
  cases fl with
  | ret u =>
    obtain ⟨v, σ', H', J, rv, q⟩ := hs
    exact fin J rv q
  | next =>
    obtain ⟨σ', H', J, q⟩ := hs
    exact fin (v := V.non) (u := Value.none) J rfl q
  | brk =>
    obtain ⟨_, _, _, q⟩ := hs
    exact False.elim q
  | cont =>
    obtain ⟨_, _, _, q⟩ := hs
    exact False.elim q
end L2

namespace L2
open PySem PySem.Spec PyProof.Rows
section
variable {X : Cx} {x : Str} {p pos : Pos} {e : Expr} {es : List Expr} {t : TA} {id T : String} {r : List V → Hp → VK → Prop}

def tCB (r : List V → Hp → VK → Prop) (t : TA) : TE := fun σ H Q => t σ H fun vs H1 => r vs H1 Q

theorem pe_callB (hc : CallR X (.builtin id) r) (hg : Gl X x) (hm : X.mg x = none) (hv : bootBuiltins x = some (.builtin id)) (ha : PA X (e :: es) t) (hn : x ≠ "__name__" := by decide) (hdb : (x == ("__debug__" : Str)) = false := by decide)
    (he : starEach (e :: es) X.env = (false, eval e X.env) :: starEach es X.env := by rfl) (hpl : (backTo pos (starEach es X.env)).any (·.1) = false := by rfl) : PE X (.Call (.Name x p) (e :: es) [] pos) (tCB r t) := by
  intro pins s σ H Q I h
  refine wpAny_Call_Name_kw (ld_blt I hg hm hv ?_ hn hdb)
  exact PyProof.Rows.callWith_builtin1 (thn (ha pos pins s σ H _ I h) fun us s1 ⟨vs, H1, I1, r1, q1⟩ => hc pins s1 σ H1 vs us Q I1 r1 q1) he hpl

theorem pe_callTy (hc : CallR X (.type T) r) (hg : Gl X x) (hm : X.mg x = none) (hv : bootBuiltins x = some (.type T)) (ha : PA X (e :: es) t) (hn : x ≠ "__name__" := by decide) (hdb : (x == ("__debug__" : Str)) = false := by decide)
    (he : starEach (e :: es) X.env = (false, eval e X.env) :: starEach es X.env := by rfl) (hpl : (backTo pos (starEach es X.env)).any (·.1) = false := by rfl) : PE X (.Call (.Name x p) (e :: es) [] pos) (tCB r t) := by
  intro pins s σ H Q I h
  refine wpAny_Call_Name_kw (ld_blt I hg hm hv ?_ hn hdb)
  exact PyProof.Rows.callWith_type1 (thn (ha pos pins s σ H _ I h) fun us s1 ⟨vs, H1, I1, r1, q1⟩ => hc pins s1 σ H1 vs us Q I1 r1 q1) he hpl

end
end L2

namespace HT
open PySem PyProof.Rows


def lexLt : List Int → List Int → Bool
  | [], [] => false
  | [], _ :: _ => true
  | _ :: _, [] => false
  | x :: xs, y :: ys => if x = y then lexLt xs ys else decide (x < y)
section
open PySem.SeqAt
open PySem.AutoSeq1 (wpAny_loadPart')
open PySem.MeetsSeq PySem.MeetsSeq2 PySem.MeetsSeq3

end

section
variable {prog : Program} {w : World} {A : Around} {E : Value → Shared → Prop} {s : Shared}

def sIx (n d : Nat) : Option Int → Nat
  | none => d
  | some v => if v < 0 then (v + (n : Int)).toNat else min v.toNat n
theorem sIx_nat (n d k : Nat) : sIx n d (some (k : Int)) = min k n := by
  show (if (k : Int) < 0 then ((k : Int) + (n : Int)).toNat else min (k : Int).toNat n) = min k n
  rw [if_neg (by omega), Int.toNat_natCast]
end
end HT

namespace L2
open PySem PySem.Spec PyProof.Rows


abbrev TO := St → Hp → (Option Int → Hp → Prop) → Prop

def PO (X : Cx) (e : Option Expr) (t : TO) : Prop :=
  ∀ (pins : List (Addr × Obj)) (s : Shared) (σ : St) (H : Hp) (Q : Option Int → Hp → Prop), Inv X pins σ H s → t σ H Q →
    wpAny (model X.prog X.w) X.A (evalPart e X.env) (fun u s' => ∃ o H', Inv X pins σ H' s' ∧ IsPart u o ∧ Q o H') X.xe s
def tNoPart : TO := fun _ H Q => Q none H
def tPart (t : TE) : TO := fun σ H Q => t σ H fun x H1 => ∃ i, x = .int i ∧ Q (some i) H1

section
variable {X : Cx} {e : Expr} {te : TE} {lo hi : Option Expr} {tl th : TO} {pos p2 : Pos}

theorem po_none : PO X none tNoPart := by
  intro pins s σ H Q I h
  rw [evalPart_none]
  exact wpAny_pure ⟨none, H, I, .none, h⟩
theorem po_some (h : PE X e te) : PO X (some e) (tPart te) := by
  intro pins s σ H Q I hw
  rw [evalPart_some]
  refine thn (h pins s σ H _ I hw) fun u s1 ⟨x, H1, I1, r1, q1⟩ => ?_
  obtain ⟨i, rfl, q⟩ := q1
  obtain ⟨t, rfl⟩ := r1
  exact ⟨some i, H1, I1, .int i t, q⟩


def SlR (X : Cx) (r : V → Option Int → Option Int → Hp → VK → Prop) : Prop :=
  ∀ (pins : List (Addr × Obj)) (s : Shared) (σ : St) (H : Hp) (x : V) (v vl vu : Value) (lo hi : Option Int) (sl : Addr) (Q : VK), Inv X pins σ H s → RelV x v → s.heap.IsSliceOf sl vl vu .none → IsPart vl lo → IsPart vu hi → r x lo hi H Q →
    ∃ T id, typeLookup (.type T) "__getitem__" = pure (some (.builtin id)) ∧ s.TypeIs v T ∧ wpAny (model X.prog X.w) X.A (getItem v (.ref sl)) (EP X pins σ Q) X.xe s
theorem SlR.or {r r' : V → Option Int → Option Int → Hp → VK → Prop} (h : SlR X r) (h' : SlR X r') : SlR X (fun x lo hi H Q => r x lo hi H Q ∨ r' x lo hi H Q) := by
  intro pins s σ H x v vl vu lo hi sl Q I rx hs pl pu q
  rcases q with q | q
  · exact h pins s σ H x v vl vu lo hi sl Q I rx hs pl pu q
  · exact h' pins s σ H x v vl vu lo hi sl Q I rx hs pl pu q
def tSl (r : V → Option Int → Option Int → Hp → VK → Prop) (te : TE) (tl th : TO) : TE := fun σ H Q => te σ H fun x H1 => tl σ H1 fun l H2 => th σ H2 fun u H3 => r x l u H3 Q

theorem pe_slice {r : V → Option Int → Option Int → Hp → VK → Prop} (hr : SlR X r) (he : PE X e te) (hl : PO X lo tl) (hu : PO X hi th) : PE X (.Subscript e (.Slice lo hi none p2) pos) (tSl r te tl th) := by
  intro pins s σ H Q I h
  refine Subscript_ (thn (he pins s σ H _ I h) fun v s1 ⟨x, H1, I1, r1, q1⟩ => ?_)
  refine wpAny_Slice (thn (hl pins s1 σ H1 _ I1 q1) fun vl s2 ⟨l, H2, I2, pl, q2⟩ => thn (hu pins s2 σ H2 _ I2 q2) fun vu s3 ⟨u, H3, I3, pu, q3⟩ => ?_)
  rw [evalPart_none]
  refine wpAny_pure ?_
  have I4 : Inv X pins σ H3 { s3 with heap := s3.heap.push { cls := .type "slice", data := .fields #[vl, vu, .none] } } := I3.kept (t' := s3.toks) fun b ob q => Heap.get?_push_of_some _ q
  obtain ⟨T, id, hT, ht, hg⟩ := hr pins { s3 with heap := s3.heap.push { cls := .type "slice", data := .fields #[vl, vu, .none] } } σ H3 x v vl vu l u s3.heap.objs.size Q I4 r1 (Heap.IsSliceOf.new ..) pl pu q3
  show wpAny (model X.prog X.w) X.A (subscriptTail e (.Slice lo hi none p2) v (.ref s3.heap.objs.size)) (EP X pins σ Q) X.xe { s3 with heap := s3.heap.push { cls := .type "slice", data := .fields #[vl, vu, .none] } }
  exact tail_any (ops := [.ref s3.heap.objs.size, v]) ht hT hg (by with_unfolding_all rfl)


def cutV (xs : List V) (lo hi : Option Int) : List V := (xs.drop (HT.sIx xs.length 0 lo)).take (HT.sIx xs.length xs.length hi - HT.sIx xs.length 0 lo)
theorem cutV_length (xs : List V) (lo hi : Option Int) : (cutV xs lo hi).length ≤ xs.length := by
  unfold cutV
  rw [List.length_take, List.length_drop]
  omega

def rSlT (K : PySem.W.Frag) : V → Option Int → Option Int → Hp → VK → Prop := fun x lo hi H Q => ∃ a xs, x = .ref a ∧ SqT K H a xs ∧
  ¬ (HT.sIx xs.length 0 lo = 0 ∧ HT.sIx xs.length xs.length hi = xs.length) ∧ ∀ p, H p = none → Q (.ref p) (upd H p (.tup (cutV xs lo hi)))
def rLtT (K : PySem.W.Frag) : R2 := fun x y H Q => ∃ a b ns ms, x = .ref a ∧ y = .ref b ∧ SqT K H a (ns.map V.int) ∧ SqT K H b (ms.map V.int) ∧ Q (.bl (HT.lexLt ns ms)) H
def rCatT (K : PySem.W.Frag) : R2 := fun x y H Q => ∃ a b xs ys, x = .ref a ∧ y = .ref b ∧ SqT K H a xs ∧ SqT K H b ys ∧ xs ≠ [] ∧ xs.length + ys.length ≤ sizeLine ∧
  (ys = [] → Q (.ref a) H) ∧ (ys ≠ [] → ∀ p, H p = none → Q (.ref p) (upd H p (.tup (xs ++ ys))))
end
end L2

namespace L2
open PySem PySem.Spec PyProof.Rows



def ixN (n : Nat) (i : Int) : Option Nat := if 0 ≤ i then (if i < n then some i.toNat else none) else if -(n : Int) ≤ i then some (i + n).toNat else none
def atI {α : Type} (xs : List α) (i : Int) : Option α := (ixN xs.length i).bind fun j => xs[j]?
theorem ixN_seq {n : Nat} {i : Int} {j : Nat} (h : ixN n i = some j) : seqIndex? i n = some j ∧ j < n ∧ -(n : Int) ≤ i ∧ i < n := by
  unfold ixN at h
  by_cases h0 : 0 ≤ i
  · rw [if_pos h0] at h
    by_cases h1 : i < n
    · rw [if_pos h1] at h
      have e : i.toNat = j := Option.some.inj h
      exact ⟨by rw [seqIndex_of h0 h1, e], by omega, by omega, h1⟩
    · rw [if_neg h1] at h; cases h
  · rw [if_neg h0] at h
    by_cases h1 : -(n : Int) ≤ i
    · rw [if_pos h1] at h
      have e : (i + n).toNat = j := Option.some.inj h
      exact ⟨by rw [seqIndex_neg (by omega) h1, e], by omega, h1, by omega⟩
    · rw [if_neg h1] at h; cases h
theorem atI_get {α : Type} {xs : List α} {i : Int} {v : α} (h : atI xs i = some v) : ∃ j, seqIndex? i xs.length = some j ∧ xs[j]? = some v ∧ j < xs.length ∧ -(xs.length : Int) ≤ i ∧ i < xs.length := by
  unfold atI at h
  cases e : ixN xs.length i with
  | none => rw [e] at h; cases h
  | some j =>
    rw [e] at h
    obtain ⟨h1, h2, h3, h4⟩ := ixN_seq e
    exact ⟨j, h1, h, h2, h3, h4⟩
theorem atI_nat {α : Type} {xs : List α} {j : Nat} {v : α} (h : xs[j]? = some v) : atI xs (j : Int) = some v := by
  have hj : j < xs.length := (List.getElem?_eq_some_iff.mp h).1
  have e : ixN xs.length (j : Int) = some j := by
    unfold ixN
    rw [if_pos (by omega), if_pos (by omega)]; simp
  unfold atI; rw [e]; exact h
def PlainIx (b : Expr) : Prop := ∀ o i, subscripted b false o i = operate [o, i] (getItem o i)

def IxR (X : Cx) (r : R2) : Prop :=
  ∀ (value slice : Expr) (pins : List (Addr × Obj)) (s : Shared) (σ : St) (H : Hp) (x y : V) (v u : Value) (Q : VK), Inv X pins σ H s → RelV x v → RelV y u → r x y H Q →
    subscripted slice false v u = operate [v, u] (getItem v u) → wpAny (model X.prog X.w) X.A (subscriptTail value slice v u) (EP X pins σ Q) X.xe s

def MtR (X : Cx) (id : String) (r : V → List V → Hp → VK → Prop) : Prop :=
  ∀ (pins : List (Addr × Obj)) (s : Shared) (σ : St) (H : Hp) (x : V) (xs : List V) (v : Value) (us : List Value) (Q : VK), Inv X pins σ H s → RelV x v → Vals xs us → r x xs H Q →
    wpAny (model X.prog X.w) X.A (call (.builtin id) (v :: us)) (EP X pins σ Q) X.xe s
section
variable {X : Cx} {a b : Expr} {ta tb : TE} {pos : Pos}
theorem IxR.or {r r' : R2} (h : IxR X r) (h' : IxR X r') : IxR X (fun x y H Q => r x y H Q ∨ r' x y H Q) := by
  intro value slice pins s σ H x y v u Q I rx ry q hs
  rcases q with q | q
  · exact h value slice pins s σ H x y v u Q I rx ry q hs
  · exact h' value slice pins s σ H x y v u Q I rx ry q hs
theorem MtR.or {id : String} {r r' : V → List V → Hp → VK → Prop} (h : MtR X id r) (h' : MtR X id r') : MtR X id (fun x xs H Q => r x xs H Q ∨ r' x xs H Q) := by
  intro pins s σ H x xs v us Q I rx rs q
  rcases q with q | q
  · exact h pins s σ H x xs v us Q I rx rs q
  · exact h' pins s σ H x xs v us Q I rx rs q

theorem pe_ix {r : R2} (hr : IxR X r) (ha : PE X a ta) (hb : PE X b tb) (hs : PlainIx b) : PE X (.Subscript a b pos) (tOp r ta tb) := by
  intro pins s σ H Q I h
  exact Subscript_ (binT ha hb I h fun v u s2 x y H2 I2 rx ry q => hr a b pins s2 σ H2 x y v u Q I2 rx ry q (hs _ _))

def rIxL (K : PySem.W.Frag) : R2 := fun x y H Q => ∃ p xs i v, x = .ref p ∧ y = .int i ∧ SqL K H p xs ∧ atI xs i = some v ∧ Q v H
def rIxT (K : PySem.W.Frag) : R2 := fun x y H Q => ∃ p xs i v, x = .ref p ∧ y = .int i ∧ SqT K H p xs ∧ atI xs i = some v ∧ Q v H
def rIxS : R2 := fun x y H Q => ∃ z i c, x = .str z ∧ y = .int i ∧ z.length ≤ sizeLine ∧ atI z.cps.toList i = some c ∧ Q (.str ⟨#[c]⟩) H
theorem ix_list : IxR X (rIxL X.K) := by
  intro value slice pins s σ H x y v u Q I rx ry h hs
  obtain ⟨p, xs, i, z, rfl, rfl, hq, he, q⟩ := h
  cases rx
  obtain ⟨t, rfl⟩ := ry
  obtain ⟨its, r, pl, hz⟩ := I.list hq
  obtain ⟨j, h1, h2, h3, h4, h5⟩ := atI_get he
  obtain ⟨w, ew, rw'⟩ := r.get h2
  have hl := r.length
  have hn := line63
  have fin : EP X pins σ Q w s := ⟨z, H, I, rw', q⟩
  by_cases h0 : 0 ≤ i
  · have hj : i.toNat = j := by
      rw [seqIndex_of h0 h5] at h1
      exact Option.some.inj h1
    exact item_listR pl.isList h0 (by omega) (by rw [hj]; simpa using ew) fin hs
  · have hj : (i + (its.toArray.size : Int)).toNat = j := by
      rw [seqIndex_neg (by omega) h4] at h1
      rw [List.size_toArray, ← hl]
      exact Option.some.inj h1
    exact subscriptTail_builtinR (x := w) pl.isList.typeIs slot_list_getitem.lookup
      (wpAny_getItem_list_neg (Q := fun r s' => r = w ∧ EP X pins σ Q r s') pl.isList (by omega) (by rw [List.size_toArray] <;> omega) (by omega) (by rw [hj]; simpa using ew) ⟨rfl, fin⟩) hs
theorem ix_tup : IxR X (rIxT X.K) := by
  intro value slice pins s σ H x y v u Q I rx ry h hs
  obtain ⟨p, xs, i, z, rfl, rfl, hq, he, q⟩ := h
  cases rx
  obtain ⟨t, rfl⟩ := ry
  obtain ⟨its, r, pl, hz⟩ := I.tuple hq
  obtain ⟨j, h1, h2, h3, h4, h5⟩ := atI_get he
  obtain ⟨w, ew, rw'⟩ := r.get h2
  have hl := r.length
  have hn := line63
  have fin : EP X pins σ Q w s := ⟨z, H, I, rw', q⟩
  exact subscriptTail_builtinR (x := w) pl.typeIs slot_tuple_getitem.lookup
    (getItem_tuple (j := j) (Q := fun r s' => r = w ∧ EP X pins σ Q r s') pl (by omega) (by omega) (by rw [List.size_toArray, ← hl]; exact h1) (by simpa using ew) ⟨rfl, fin⟩) hs
theorem ix_str : IxR X rIxS := by
  intro value slice pins s σ H x y v u Q I rx ry h hs
  obtain ⟨z, i, c, rfl, rfl, hz, he, q⟩ := h
  obtain ⟨t, rfl⟩ := rx
  obtain ⟨t', rfl⟩ := ry
  obtain ⟨j, h1, h2, h3, h4, h5⟩ := atI_get he
  have hl : z.cps.toList.length = z.length := by simp [Str.length]
  rw [hl] at h1 h4 h5
  have hn := line63
  exact tail_any (typeIs_str s z t) slot_str_getitem.lookup (getItem_str (c := c) (by
    have e1 : decide (i < -(2 ^ 63 : Int)) = false := decide_eq_false (by omega)
    have e2 : decide (i ≥ 2 ^ 63) = false := decide_eq_false (by omega)
    rw [e1, e2, Bool.or_false]) (by rw [h1]; simpa using h2) ⟨.str ⟨#[c]⟩, H, I.tok _, ⟨_, rfl⟩, q⟩) hs

def rIx (K : PySem.W.Frag) : R2 := fun x y H Q => rIxL K x y H Q ∨ rIxT K x y H Q ∨ rIxS x y H Q
theorem mapSeq_set (its : List Value) (n j : Nat) (u : Value) : Obj.mapSeq (·.setIfInBounds j u) { cls := .type "list", data := .seq its.toArray n } = { cls := .type "list", data := .seq (its.set j u).toArray n } := by
  simp [Obj.mapSeq]
theorem Inv.lst {pins : List (Addr × Obj)} {σ : St} {H : Hp} {s : Shared} {p : Addr} {xs : List V} (I : Inv X pins σ H s) (h : H p = some (.lst xs)) :
    ∃ (its : List Value) (n : Nat), Vals xs its ∧ s.heap.get? p = some { cls := .type "list", data := .seq its.toArray n } ∧ xs.length ≤ sizeLine := by
  obtain ⟨z, its, n, r, e⟩ := I.hok p _ h
  exact ⟨its, n, r, e, z⟩

theorem Inv.lstUpd {pins : List (Addr × Obj)} {σ : St} {H : Hp} {s : Shared} {p : Addr} {xs ys : List V} {its its' : List Value} {n n' : Nat} {f : Obj → Obj} (I : Inv X pins σ H s) (h : H p = some (.lst xs))
    (ho : s.heap.get? p = some { cls := .type "list", data := .seq its.toArray n }) (hf : f { cls := .type "list", data := .seq its.toArray n } = { cls := .type "list", data := .seq its'.toArray n' }) (r : Vals ys its') (hz : ys.length ≤ sizeLine) (t : Nat) :
    Inv X pins σ (upd H p (.lst ys)) { s with heap := s.heap.update p f, toks := t } := by
  have e : (s.heap.update p f).get? p = some { cls := .type "list", data := .seq its'.toArray n' } := by
    rw [Heap.get?_update_self f ho (by rw [hf] <;> rfl), hf]
  refine I.write (x := p) (e := p) (by rw [h]; trivial) (.inl rfl) (fun b u hb q => (Heap.get?_update_other _ _ (Ne.symm hb)).trans q) ⟨_, e⟩ ?_
  exact ⟨hz, its', n', r, e⟩
def rSetL : V → V → V → Hp → (Hp → Prop) → Prop := fun o i v H Q => ∃ p xs k j, o = .ref p ∧ i = .int k ∧ H p = some (.lst xs) ∧ ixN xs.length k = some j ∧ Q (upd H p (.lst (xs.set j v)))
theorem set_list : PSet X rSetL := by
  intro pins s σ H o i v ov iv u Q I ro ri rv h
  obtain ⟨p, xs, k, j, rfl, rfl, hp, hj, q⟩ := h
  cases ro
  obtain ⟨t, rfl⟩ := ri
  obtain ⟨its, n, r, ho, hz⟩ := I.lst hp
  obtain ⟨h1, h2, h3, h4⟩ := ixN_seq hj
  have hl := r.length
  have hn := line63
  have I' : Inv X pins σ (upd H p (.lst (xs.set j v))) { s with heap := s.heap.update p (Obj.mapSeq (·.setIfInBounds j u)) } :=
    I.lstUpd hp ho (mapSeq_set its n j u) (r.set rv j) (by rw [List.length_set]; exact hz) s.toks
  by_cases h0 : 0 ≤ k
  · have hk : k.toNat = j := by
      rw [seqIndex_of h0 h4] at h1
      exact Option.some.inj h1
    exact PySem.W.ki_setAt ho h0 (by omega) (by rw [List.size_toArray, ← hl]; exact h4) (by rw [hk]; exact ⟨_, I', q⟩)
  · have hk : (k + (its.toArray.size : Int)).toNat = j := by
      rw [seqIndex_neg (by omega) h3] at h1
      rw [List.size_toArray, ← hl]
      exact Option.some.inj h1
    exact PySem.W.ki_setBack ho (by omega) (by rw [List.size_toArray, ← hl]; exact h3) (by omega) (by rw [hk]; exact ⟨_, I', q⟩)


theorem slice_bounds (lo hi : Option Int) (n : Nat) : (sliceBounds lo hi none n).1 = ((HT.sIx n 0 lo : Nat) : Int) ∧ (sliceBounds lo hi none n).2.1 = ((HT.sIx n n hi : Nat) : Int) ∧ (sliceBounds lo hi none n).2.2 = 1 := by
  refine ⟨?_, ?_, rfl⟩
  · cases lo with
    | none => simp [sliceBounds, HT.sIx]
    | some i =>
      simp only [sliceBounds, HT.sIx, Option.getD_none, show (1 : Int) > 0 by decide, if_true]
      by_cases h : i < 0
      · simp only [h, if_true] <;> omega
      · simp only [h, if_false] <;> omega
  · cases hi with
    | none => simp [sliceBounds, HT.sIx]
    | some i =>
      simp only [sliceBounds, HT.sIx, Option.getD_none, show (1 : Int) > 0 by decide, if_true]
      by_cases h : i < 0
      · simp only [h, if_true] <;> omega
      · simp only [h, if_false] <;> omega
theorem slicePick_cut (its : List Value) (lo hi : Option Int) : slicePick its.toArray lo hi none = ((its.drop (HT.sIx its.length 0 lo)).take (HT.sIx its.length its.length hi - HT.sIx its.length 0 lo)).toArray := by
  obtain ⟨h1, h2, h3⟩ := slice_bounds lo hi its.toArray.size
  unfold slicePick
  rw [h1, h2, h3]
  simp only [sliceRange_one, pick_run, List.size_toArray] <;> rfl

def rSlL (K : PySem.W.Frag) : V → Option Int → Option Int → Hp → VK → Prop := fun x lo hi H Q => ∃ a xs, x = .ref a ∧ SqL K H a xs ∧ ∀ p, H p = none → Q (.ref p) (upd H p (.lst (cutV xs lo hi)))
theorem sl_list : SlR X (rSlL X.K) := by
  intro pins s σ H x v vl vu lo hi sl Q I rx hs pl pu h
  obtain ⟨a, xs, rfl, hx, q⟩ := h
  cases rx
  obtain ⟨its, r, ht, hz⟩ := I.list hx
  have hlen := r.length
  refine ⟨"list", _, slot_list_getitem.lookup, ht.isList.typeIs, ?_⟩
  refine wpAny_getItem_list_slice ht.isList hs pl pu .none (by simp) ?_ (by rw [List.size_toArray] <;> omega)
  rw [slicePick_cut, ← hlen]
  refine ⟨.ref s.heap.objs.size, _, I.laid (t' := s.toks) (o := .lst (cutV xs lo hi)) (fun b ob q => Heap.get?_push_of_some _ q) (Nat.le_refl _) ?_, rfl, q _ (I.hok.fresh (Nat.le_refl _))⟩
  exact ⟨Nat.le_trans (cutV_length xs lo hi) hz, _, 0, (r.drop (HT.sIx xs.length 0 lo)).take (HT.sIx xs.length xs.length hi - HT.sIx xs.length 0 lo), Heap.get?_push_size _ rfl⟩


def flatV : V → Bool
  | .non => true
  | .bl _ => true
  | .int _ => true
  | .str _ => true
  | _ => false

def eqV : V → V → Bool
  | .non, .non => true
  | .bl a, .bl b => a == b
  | .bl a, .int b => (if a then 1 else 0) == b
  | .int a, .bl b => a == (if b then 1 else 0)
  | .int a, .int b => a == b
  | .str a, .str b => a == b
  | _, _ => false
def eqU (x : V) (u : Value) : Bool := match u with
  | .none => eqV .non x
  | .bool b => eqV (.bl b) x
  | .int i _ => eqV (.int i) x
  | .str z _ => eqV (.str z) x
  | _ => false
def inV (x : V) (xs : List V) : Bool := xs.any fun y => eqV y x

def rIn (K : PySem.W.Frag) (neg : Bool) : R2 := fun x y H Q => ∃ p xs, y = .ref p ∧ (SqL K H p xs ∨ SqT K H p xs) ∧ flatV x = true ∧ xs.all flatV = true ∧ Q (.bl (if neg then !inV x xs else inV x xs)) H
theorem call_len_seq : CallR X (.builtin "len") (fun xs H Q => ∃ p ys, xs = [.ref p] ∧ (SqL X.K H p ys ∨ SqT X.K H p ys) ∧ Q (.int ys.length) H) := by
  intro pins s σ H xs us Q I r h
  obtain ⟨p, ys, rfl, hq, q⟩ := h
  obtain ⟨u, rfl, rx⟩ := vals1 r
  cases rx
  have hn := line63
  rcases hq with hq | hq
  · obtain ⟨its, r', pl, hz⟩ := I.list hq
    have hlen := r'.length
    exact Calls.call_len_list pl.isList (by simp only [List.size_toArray] <;> omega) ⟨.int ys.length, H, I.tok _, ⟨s.toks + 1, by rw [List.size_toArray, hlen]⟩, q⟩
  · obtain ⟨its, r', pl, hz⟩ := I.tuple hq
    have hlen := r'.length
    exact len_tuple pl (by simp only [List.size_toArray] <;> omega) ⟨.int ys.length, H, I.tok _, ⟨s.toks + 1, by rw [List.size_toArray, hlen]⟩, q⟩
theorem call_len_str : CallR X (.builtin "len") (fun xs H Q => ∃ z, xs = [.str z] ∧ z.length ≤ sizeLine ∧ Q (.int z.length) H) := by
  intro pins s σ H xs us Q I r h
  obtain ⟨z, rfl, hz, q⟩ := h
  obtain ⟨u, rfl, t, rfl⟩ := vals1 r
  have hn := line63
  exact len_str (by omega) ⟨.int z.length, H, I.tok _, ⟨_, rfl⟩, q⟩
theorem CallR.or {f : Value} {r r' : List V → Hp → VK → Prop} (h : CallR X f r) (h' : CallR X f r') : CallR X f (fun xs H Q => r xs H Q ∨ r' xs H Q) := by
  intro pins s σ H xs us Q I rs q
  rcases q with q | q
  · exact h pins s σ H xs us Q I rs q
  · exact h' pins s σ H xs us Q I rs q
theorem call_list_of : CallR X (.type "list") (fun xs H Q => ∃ p ys, xs = [.ref p] ∧ (SqL X.K H p ys ∨ SqT X.K H p ys) ∧ ∀ l, H l = none → Q (.ref l) (upd H l (.lst ys))) := by
  intro pins s σ H xs us Q I r h
  obtain ⟨p, ys, rfl, hq, q⟩ := h
  obtain ⟨u, rfl, rx⟩ := vals1 r
  cases rx
  have fin : ∀ (its : List Value), Vals ys its → ys.length ≤ sizeLine → ∀ (h' : Heap) (c' : Nat), (∀ b o', s.heap.get? b = some o' → h'.get? b = some o') →
      h'.get? s.heap.objs.size = some { cls := .type "list", dict := none, data := .seq its.toArray c', slots := #[] } → EP X pins σ Q (.ref s.heap.objs.size) { s with heap := h' } := fun its r' hz h' c' kp e =>
    ⟨.ref s.heap.objs.size, _, I.laid (t' := s.toks) kp (Nat.le_refl _) (show ObjOk X.prog X.w _ h' _ (.lst ys) from ⟨hz, its, c', r', e⟩), rfl, q _ (I.hok.fresh (Nat.le_refl _))⟩
  rcases hq with hq | hq
  · obtain ⟨its, r', pl, hz⟩ := I.list hq
    have hlen := r'.length
    obtain ⟨o, ho, hc, n, hd⟩ := pl.isList
    exact call_list_seq p (.inl rfl) ho hc hd (fun h' c' kp e => fin its r' hz h' c' kp e) (by simp only [List.size_toArray] <;> omega)
  · obtain ⟨its, r', pl, hz⟩ := I.tuple hq
    have hlen := r'.length
    obtain ⟨o, ho, hc, n, hd⟩ := pl
    exact call_list_seq p (.inr rfl) ho hc hd (fun h' c' kp e => fin its r' hz h' c' kp e) (by simp only [List.size_toArray] <;> omega)
theorem call_tuple_of : CallR X (.type "tuple") (fun xs H Q => ∃ p ys, xs = [.ref p] ∧ ((SqL X.K H p ys ∧ ∀ l, H l = none → Q (.ref l) (upd H l (.tup ys))) ∨ (SqT X.K H p ys ∧ Q (.ref p) H))) := by
  intro pins s σ H xs us Q I r h
  obtain ⟨p, ys, rfl, h⟩ := h
  obtain ⟨u, rfl, rx⟩ := vals1 r
  cases rx
  rcases h with ⟨hq, q⟩ | ⟨hq, q⟩
  · obtain ⟨its, r', pl, hz⟩ := I.list hq
    have hlen := r'.length
    refine call_tuple_list pl.isList (fun h' kp => ?_) (by simp only [List.size_toArray] <;> omega)
    have I1 : Inv X pins σ H { s with heap := h' } := I.kept (t' := s.toks) kp
    have I2 : Inv X pins σ (upd H h'.objs.size (.tup ys)) { s with heap := h'.push { cls := .type "tuple", data := .seq its.toArray } } :=
      I1.laid (t' := s.toks) (fun b o e => Heap.get?_push_of_some _ e) (Nat.le_refl _) (show ObjOk X.prog X.w _ _ _ (.tup ys) from ⟨hz, its, r', IsTup.new _ _⟩)
    exact ⟨.ref h'.objs.size, _, I2, rfl, q _ (I1.hok.fresh (Nat.le_refl _))⟩
  · obtain ⟨its, r', pl, hz⟩ := I.tuple hq
    exact call_tuple_same pl ⟨.ref p, H, I, rfl, q⟩



def tyV (K : PySem.W.Frag) (T : String) (x : V) (H : Hp) : Prop := match x with
  | .str _ => T = "str"
  | .int _ => T = "int"
  | .ref p => (T = "list" ∧ ∃ xs, SqL K H p xs) ∨ (T = "tuple" ∧ ∃ o, K.lookup p = some o ∧ o.cls = .type "tuple" ∧ o.dict = none) ∨
      (T = "dict" ∧ ((∃ kvs, H p = some (.dK kvs)) ∨ ∃ kvs, H p = some (.dT kvs))) ∨ (T = "set" ∧ ∃ S n, H p = some (.set S n))
  | _ => False
theorem tyV_is {pins : List (Addr × Obj)} {σ : St} {H : Hp} {s : Shared} {T : String} {x : V} {v : Value} (I : Inv X pins σ H s) (r : RelV x v) (ty : tyV X.K T x H) :
    s.TypeIs v T ∧ ∀ a, v = .ref a → ∃ ob, s.heap.get? a = some ob ∧ ob.dict = none := by
  cases x with
  | str z =>
    obtain ⟨t, rfl⟩ := r
    cases (show T = "str" from ty)
    exact ⟨typeIs_str s z t, fun _ e => nomatch e⟩
  | int i =>
    obtain ⟨t, rfl⟩ := r
    cases (show T = "int" from ty)
    exact ⟨typeIs_int s i t, fun _ e => nomatch e⟩
  | ref p =>
    cases r
    rcases ty with ⟨rfl, xs, hq⟩ | ⟨rfl, o, hk, hc, hd⟩ | ⟨rfl, hk⟩ | ⟨rfl, S, n, hk⟩
    · obtain ⟨its, _, pl, _⟩ := I.list hq
      refine ⟨pl.isList.typeIs, fun a e => ?_⟩
      cases e
      obtain ⟨o, n, e, c, hd, _⟩ := pl
      exact ⟨o, e, hd⟩
    · refine ⟨⟨o, I.kIn p o hk, hc⟩, fun a e => ?_⟩
      cases e
      exact ⟨o, I.kIn _ o hk, hd⟩
    · have z : ∃ o, s.heap.get? p = some o ∧ o.ExactDict := by
        rcases hk with ⟨kvs, hk⟩ | ⟨kvs, hk⟩
        · obtain ⟨_, _, _, _, o, _, _, e, ex, _⟩ := I.hok p _ hk
          exact ⟨o, e, ex⟩
        · obtain ⟨_, _, _, _, o, _, _, e, ex, _⟩ := I.hok p _ hk
          exact ⟨o, e, ex⟩
      obtain ⟨o, e, ex⟩ := z
      refine ⟨⟨o, e, ex.1⟩, fun a e2 => ?_⟩
      cases e2
      exact ⟨o, e, ex.2.1⟩
    · obtain ⟨o, _, _, _, e, ex, _⟩ := I.hok p _ hk
      refine ⟨⟨o, e, ex.1⟩, fun a e2 => ?_⟩
      cases e2
      exact ⟨o, e, ex.2.1⟩
  | _ => exact False.elim ty
def tBM0 (K : PySem.W.Frag) (T : String) (r : V → List V → Hp → VK → Prop) (to : TE) : TE := fun σ H Q => to σ H fun x H1 => tyV K T x H1 ∧ r x [] H1 Q
def tBM (K : PySem.W.Frag) (T : String) (r : V → List V → Hp → VK → Prop) (to : TE) (t : TA) : TE := fun σ H Q => to σ H fun x H1 => tyV K T x H1 ∧ t σ H1 fun xs H2 => r x xs H2 Q
variable {o e : Expr} {es : List Expr} {to : TE} {t : TA} {name : Str} {apos cpos : Pos} {T id : String} {r : V → List V → Hp → VK → Prop}
theorem pe_bm0 (pa : PlainAttrs T) (slot : Slot T name id) (hty : typeOf (.builtin id) = pure (.type "method_descriptor")) (hm : MtR X id r) (ho : PE X o to)
    (hbase : attributeBase o name X.env (eval o X.env) = eval o X.env := by rfl) (hline : (apos.endLine == cpos.line) = true := by rfl) : PE X (.Call (.Attribute o name apos) [] [] cpos) (tBM0 X.K T r to) := by
  intro pins s σ H Q I h
  refine wpAny_Call_method0_late hbase hline (thn (ho pins s σ H _ I h) fun v s1 ⟨x, H1, I1, r1, ty, q1⟩ => ?_)
  obtain ⟨h1, h2⟩ := tyV_is I1 r1 ty
  exact ⟨T, id, pa, slot, hty, h1, h2, Calls.callWith_builtin rfl (PySem.evalArgs_none (hm pins s1 σ H1 x [] v [] Q I1 r1 .nil q1))⟩
theorem pe_bm (pa : PlainAttrs T) (slot : Slot T name id) (hty : typeOf (.builtin id) = pure (.type "method_descriptor")) (hm : MtR X id r) (ho : PE X o to) (ha : PA X (e :: es) t)
    (hbase : attributeBase o name X.env (eval o X.env) = eval o X.env := by rfl)
    (hfew : ((backTo cpos (starEach (e :: es) X.env)).all (fun x => !x.1) && (backToKw cpos (keywordEach [] X.env)).all (fun x => x.1.isSome)
      && decide ((e :: es).length + ([] : List Keyword).length + (if ([] : List Keyword).isEmpty then 0 else 1) < 30)) = true := by rfl)
    (hline : (apos.endLine == cpos.line) = true := by rfl) (hs : starEach (e :: es) X.env = (false, eval e X.env) :: starEach es X.env := by rfl) (hplain : (backTo cpos (starEach es X.env)).any (·.1) = false := by rfl) :
    PE X (.Call (.Attribute o name apos) (e :: es) [] cpos) (tBM X.K T r to t) := by
  intro pins s σ H Q I h
  refine wpAny_Call_method_late hbase hfew hline rfl (thn (ho pins s σ H _ I h) fun v s1 ⟨x, H1, I1, r1, ty, q1⟩ => ?_)
  obtain ⟨h1, h2⟩ := tyV_is I1 r1 ty
  refine ⟨T, id, pa, slot, hty, h1, h2, ?_⟩
  have hA := ha cpos pins s1 σ H1 _ I1 q1
  rw [hs] at hA ⊢
  refine Calls.callWith_builtin (by show (false || (backTo cpos (starEach es X.env)).any (·.1)) = false; rw [hplain] <;> rfl) (Calls.evalArgs_plain ?_)
  exact thn hA fun us s2 ⟨vs, H2, I2, r2, q2⟩ => hm pins s2 σ H2 x vs v us Q I2 r1 r2 q2

end
end L2

namespace L2
open PySem PySem.Spec PyProof.Rows

def MtM (X : Cx) (id : String) (r : V → List V → Hp → VK → Prop) : Prop :=
  ∀ (pins : List (Addr × Obj)) (s : Shared) (σ : St) (H : Hp) (x : V) (xs : List V) (v : Value) (us : List Value) (Q : VK), Inv X pins σ H s → RelV x v → Vals xs us → r x xs H Q →
    wpAny (model X.prog X.w) X.A (call (.builtin id) (v :: us)) (EP X pins σ Q) X.xe s


theorem Vals.one : ∀ {x : V} {us : List Value}, Vals [x] us → ∃ u, us = [u] ∧ RelV x u
  | _, _, .cons r .nil => ⟨_, rfl, r⟩
theorem Vals.zero : ∀ {us : List Value}, Vals [] us → us = []
  | _, .nil => rfl
theorem Vals.dropLast {xs : List V} {us : List Value} (h : Vals xs us) : Vals xs.dropLast us.dropLast := by
  induction h with
  | nil => exact .nil
  | cons r t ih =>
    cases t with
    | nil => exact .nil
    | cons q t' => exact .cons r ih
theorem Vals.eraseIdx : ∀ {xs : List V} {us : List Value} (i : Nat), Vals xs us → Vals (xs.eraseIdx i) (us.eraseIdx i)
  | _, _, _, .nil => .nil
  | _, _, 0, .cons _ t => t
  | _, _, i + 1, .cons r t => .cons r (Vals.eraseIdx i t)
theorem Vals.reverse {xs : List V} {us : List Value} (h : Vals xs us) : Vals xs.reverse us.reverse := by
  induction h with
  | nil => exact .nil
  | cons r t ih => rw [List.reverse_cons, List.reverse_cons]; exact Vals.append ih (.cons r .nil)
theorem erase_last {α : Type} (l : List α) : l.eraseIdx (l.length - 1) = l.dropLast := by
  induction l with
  | nil => rfl
  | cons a r ih =>
    cases r with
    | nil => rfl
    | cons b r =>
      have e : (a :: b :: r).length - 1 = ((b :: r).length - 1) + 1 := by
        have h1 : (a :: b :: r).length = r.length + 2 := rfl
        have h2 : (b :: r).length = r.length + 1 := rfl
        omega
      rw [e, List.eraseIdx_cons_succ, ih]
      all_goals rfl
section
variable {X : Cx} {pins : List (Addr × Obj)} {σ : St} {H : Hp} {s : Shared} {l b : Addr} {xs ys zs : List V}


theorem Inv.lset {its its' : List Value} {n : Nat} {f : Array Value → Array Value} {t' : Nat} (I : Inv X pins σ H s) (hH : H l = some (.lst xs))
    (e : s.heap.get? l = some { cls := .type "list", data := .seq its.toArray n }) (hf : f its.toArray = its'.toArray) (hv : Vals ys its') (hz : ys.length ≤ sizeLine) :
    Inv X pins σ (upd H l (.lst ys)) { s with heap := s.heap.update l (Obj.mapSeq f), toks := t' } := by
  have q := PySem.IsL.update e f
  rw [hf] at q
  refine I.write (x := l) (e := l) (by rw [hH]; exact trivial) (.inl rfl) (fun b' u hb hu => (Heap.get?_update_other s.heap (Obj.mapSeq f) (Ne.symm hb)).trans hu) ⟨_, q⟩ ?_
  exact ⟨hz, its', _, hv, q⟩
theorem Inv.lnew {its : List Value} {t' : Nat} (I : Inv X pins σ H s) (hv : Vals ys its) (hz : ys.length ≤ sizeLine) :
    Inv X pins σ (upd H s.heap.objs.size (.lst ys)) { s with heap := s.heap.push { cls := .type "list", data := .seq its.toArray }, toks := t' } :=
  I.laid (fun _ _ q => Heap.get?_push_of_some _ q) (Nat.le_refl _) ⟨hz, its, 0, hv, Heap.get?_push_size _ rfl⟩
theorem Inv.fresh (I : Inv X pins σ H s) : H s.heap.objs.size = none := I.hok.fresh (Nat.le_refl _)
theorem Inv.lstM (I : Inv X pins σ H s) (hH : H l = some (.lst xs)) : xs.length ≤ sizeLine ∧ ∃ (its : List Value) (n : Nat), Vals xs its ∧ xs.length = its.length ∧ s.heap.get? l = some { cls := .type "list", data := .seq its.toArray n } := by
  obtain ⟨z, its, n, r, e⟩ := I.hok l _ hH
  exact ⟨z, its, n, r, r.length, e⟩

theorem notLongL {n : Nat} (h : n ≤ sizeLine) : Builtin.List.listTooLong n = false := by
  unfold Builtin.List.listTooLong
  exact decide_eq_false (by omega)
end

section
variable {X : Cx}


def rAppend : V → List V → Hp → VK → Prop := fun x vs H Q => ∃ l xs y, x = .ref l ∧ vs = [y] ∧ H l = some (.lst xs) ∧ xs.length < sizeLine ∧ Q .non (upd H l (.lst (xs ++ [y])))
theorem mt_append : MtM X "list.append" rAppend := by
  intro pins s σ H x vs v us Q I rx rv h
  obtain ⟨l, xs, y, rfl, rfl, hH, hz, q⟩ := h
  cases rx
  obtain ⟨u, rfl, ru⟩ := rv.one
  obtain ⟨z, its, n, r, hl, e⟩ := I.lstM hH
  refine call_meets F.slot_list_append ⟨_, e, rfl⟩ F.entry_list_append (F.args_list_append_2 _ _) (PySem.list_append l its.toArray n u (by rw [List.size_toArray]; omega)) ⟨e, ?_⟩
  refine ⟨.non, _, I.lset (its' := its ++ [u]) hH e (by simp) (r.append (.cons ru .nil)) ?_, rfl, q⟩
  rw [List.length_append, List.length_singleton]
  omega

def rExtend : V → List V → Hp → VK → Prop := fun x vs H Q => ∃ l b xs zs, x = .ref l ∧ vs = [.ref b] ∧ H l = some (.lst xs) ∧ H b = some (.lst zs) ∧ xs.length + zs.length ≤ sizeLine ∧ Q .non (upd H l (.lst (xs ++ zs)))
theorem mt_extend : MtM X "list.extend" rExtend := by
  intro pins s σ H x vs v us Q I rx rv h
  obtain ⟨l, b, xs, zs, rfl, rfl, hH, hB, hz, q⟩ := h
  cases rx
  obtain ⟨u, rfl, ru⟩ := rv.one
  cases ru
  obtain ⟨z, its, n, r, hl, e⟩ := I.lstM hH
  obtain ⟨z2, its2, n2, r2, hl2, e2⟩ := I.lstM hB
  have hsz : its.toArray.size + its2.toArray.size ≤ sizeLine := by rw [List.size_toArray, List.size_toArray]; omega
  have hlong : ¬ (!its.toArray.isEmpty && Builtin.List.listTooLong (its.toArray.size + its2.toArray.size)) = true := by
    rw [notLongL hsz, Bool.and_false]
    exact Bool.false_ne_true
  refine call_meets F.slot_list_extend ⟨_, e, rfl⟩ F.entry_list_extend (F.args_list_extend_2 _ _)
    (AutoSeq1.list_extend_list_list_0 l its.toArray n b its2.toArray n2 hlong (by rw [List.size_toArray]; omega) (by omega)) ⟨e, e2, ?_⟩
  refine ⟨.non, _, I.lset (its' := its ++ its2) hH e (by simp) (r.append r2) ?_, rfl, q⟩
  rw [List.length_append]
  omega

def rPop : V → List V → Hp → VK → Prop := fun x vs H Q => ∃ l xs y, x = .ref l ∧ vs = [] ∧ H l = some (.lst xs) ∧ xs[xs.length - 1]? = some y ∧ Q y (upd H l (.lst xs.dropLast))
theorem mt_pop : MtM X "list.pop" rPop := by
  intro pins s σ H x vs v us Q I rx rv h
  obtain ⟨l, xs, y, rfl, rfl, hH, hy, q⟩ := h
  cases rx
  have hus := rv.zero
  subst hus
  obtain ⟨z, its, n, r, hl, e⟩ := I.lstM hH
  obtain ⟨u, hu, ru⟩ := r.get hy
  have hy' : its.toArray[its.toArray.size - 1]? = some u := by
    show its.toArray[its.length - 1]? = some u
    rw [← Array.getElem?_toList, ← hl]
    exact hu
  refine call_meets F.slot_list_pop ⟨_, e, rfl⟩ F.entry_list_pop (F.args_list_pop_1 _) (MeetsSeq.list_pop_last l its.toArray n u hy' (by rw [List.size_toArray]; omega)) ⟨e, ?_⟩
  refine ⟨y, _, I.lset (its' := its.dropLast) hH e ?_ r.dropLast ?_, ru, q⟩
  · show its.toArray.eraseIdxIfInBounds (its.toArray.size - 1) = its.dropLast.toArray
    rw [List.size_toArray, List.eraseIdxIfInBounds_toArray, erase_last]
  · rw [List.length_dropLast]
    omega

def rPopAt : V → List V → Hp → VK → Prop := fun x vs H Q => ∃ l xs i k y, x = .ref l ∧ vs = [.int i] ∧ H l = some (.lst xs) ∧ -(2 ^ 63) ≤ i ∧ i < 2 ^ 63 ∧ seqIndex? i xs.length = some k ∧ xs[k]? = some y ∧ Q y (upd H l (.lst (xs.eraseIdx k)))
def rReverse : V → List V → Hp → VK → Prop := fun x vs H Q => ∃ l xs, x = .ref l ∧ vs = [] ∧ H l = some (.lst xs) ∧ Q .non (upd H l (.lst xs.reverse))
theorem mt_reverse : MtM X "list.reverse" rReverse := by
  intro pins s σ H x vs v us Q I rx rv h
  obtain ⟨l, xs, rfl, rfl, hH, q⟩ := h
  cases rx
  have hus := rv.zero
  subst hus
  obtain ⟨z, its, n, r, hl, e⟩ := I.lstM hH
  refine call_meets F.slot_list_reverse ⟨_, e, rfl⟩ F.entry_list_reverse (F.args_list_reverse_1 _) (AutoSeq1.list_reverse_list_0 l its.toArray n (by rw [List.size_toArray]; omega)) ⟨e, ?_⟩
  refine ⟨.non, _, I.lset (its' := its.reverse) hH e (by simp) r.reverse ?_, rfl, q⟩
  rw [List.length_reverse]
  omega

def rClear : V → List V → Hp → VK → Prop := fun x vs H Q => ∃ l xs, x = .ref l ∧ vs = [] ∧ H l = some (.lst xs) ∧ Q .non (upd H l (.lst []))
def rCat : R2 := fun x y H Q => ∃ l b xs zs, x = .ref l ∧ y = .ref b ∧ H l = some (.lst xs) ∧ H b = some (.lst zs) ∧ xs.length + zs.length ≤ sizeLine ∧ ∀ p, H p = none → Q (.ref p) (upd H p (.lst (xs ++ zs)))
theorem op_cat : OpR X (binaryOp .Add) rCat := by
  intro pins s σ H x y v u Q I rx ry h
  obtain ⟨l, b, xs, zs, rfl, rfl, hH, hB, hz, q⟩ := h
  cases rx
  cases ry
  obtain ⟨z, its, n, r, hl, e⟩ := I.lstM hH
  obtain ⟨z2, its2, n2, r2, hl2, e2⟩ := I.lstM hB
  refine PySem.P.add_list e e2 ?_ (by rw [List.size_toArray, List.size_toArray]; omega)
  have ea : its.toArray ++ its2.toArray = (its ++ its2).toArray := by simp
  rw [ea]
  exact ⟨.ref _, _, I.lnew (t' := s.toks) (r.append r2) (by rw [List.length_append]; omega), rfl, q _ I.fresh⟩

def rRep : R2 := fun x y H Q => ∃ l k xs, x = .ref l ∧ y = .int k ∧ H l = some (.lst xs) ∧ -(2 ^ 63) ≤ k ∧ k < 2 ^ 63 ∧ xs.length * k.toNat ≤ sizeLine ∧
  ∀ p, H p = none → Q (.ref p) (upd H p (.lst (List.replicate k.toNat xs).flatten))
end


section
variable {prog : Program} {w : World} {A : Around} {E : Value → Shared → Prop} {s : Shared}
set_option maxRecDepth 100000 in

end

section
variable {X : Cx}

end
end L2

namespace L2
open PySem PySem.Spec PyProof.Rows


section
variable {κ : Type} [DecidableEq κ]
def valV (kvs : List (κ × V)) (k : κ) : Option V := (kvs.find? fun kv => decide (kv.1 = k)).map (·.2)

def putK (kvs : List (κ × V)) (k : κ) (v : V) : List (κ × V) :=
  if (kvs.any fun kv => decide (kv.1 = k)) = true then kvs.map (fun kv => if kv.1 = k then (kv.1, v) else kv) else kvs ++ [(k, v)]
def dropK (kvs : List (κ × V)) (k : κ) : List (κ × V) := kvs.filter fun kv => decide (kv.1 ≠ k)

theorem valV_pos {p : κ × V} {r : List (κ × V)} {k : κ} (e : p.1 = k) : valV (p :: r) k = some p.2 := by simp [valV, List.find?_cons, e]
theorem valV_neg {p : κ × V} {r : List (κ × V)} {k : κ} (e : ¬ p.1 = k) : valV (p :: r) k = valV r k := by simp [valV, List.find?_cons, e]
theorem valV_any (k : κ) : ∀ kvs : List (κ × V), (kvs.any fun kv => decide (kv.1 = k)) = (valV kvs k).isSome
  | [] => rfl
  | p :: r => by
    rw [List.any_cons]
    by_cases e : p.1 = k
    · simp only [valV_pos e, decide_eq_true e, Bool.true_or, Option.isSome_some]
    · rw [valV_neg e, decide_eq_false e, Bool.false_or]; exact valV_any k r
theorem length_putK (kvs : List (κ × V)) (k : κ) (v : V) : (putK kvs k v).length ≤ kvs.length + 1 := by
  unfold putK
  split
  · rw [List.length_map]; omega
  · rw [List.length_append, List.length_cons, List.length_nil]; omega
theorem RelO.isSome_eq {o : Option V} {u : Option Value} (r : RelO o u) : o.isSome = u.isSome := by
  cases o with
  | none => cases u with
    | none => rfl
    | some _ => exact (show False from r).elim
  | some _ => cases u with
    | none => exact (show False from r).elim
    | some _ => rfl
theorem RelO.getD {o : Option V} {u : Option Value} {d : V} {d' : Value} (r : RelO o u) (rd : RelV d d') : RelV (o.getD d) (u.getD d') := by
  cases o with
  | none => cases u with
    | none => exact rd
    | some _ => exact (show False from r).elim
  | some _ => cases u with
    | none => exact (show False from r).elim
    | some _ => exact r


theorem KV.val {kvs : List (κ × V)} {vs : List (κ × Value)} (r : KV kvs vs) (k : κ) : RelO (valV kvs k) (valueAt vs k) := by
  unfold KV at r
  induction r with
  | nil => exact True.intro
  | @cons p q ps qs h t ih =>
    obtain ⟨h1, h2⟩ := h
    by_cases e : p.1 = k
    · have e' : q.1 = k := h1.symm.trans e
      have b : valueAt (q :: qs) k = some q.2 := by simp [valueAt, List.find?_cons, e']
      rw [valV_pos e, b]; exact h2
    · have e' : ¬ q.1 = k := fun z => e (h1.trans z)
      have b : valueAt (q :: qs) k = valueAt qs k := by simp [valueAt, List.find?_cons, e']
      rw [valV_neg e, b]; exact ih
theorem KV.any {kvs : List (κ × V)} {vs : List (κ × Value)} (r : KV kvs vs) (k : κ) : (kvs.any fun kv => decide (kv.1 = k)) = vs.any fun kv => decide (kv.1 = k) := by
  unfold KV at r
  induction r with
  | nil => rfl
  | cons h t ih => rw [List.any_cons, List.any_cons, ih, h.1]
theorem KV.repl {kvs : List (κ × V)} {vs : List (κ × Value)} (r : KV kvs vs) (k : κ) {y : V} {u : Value} (ry : RelV y u) :
    KV (kvs.map fun kv => if kv.1 = k then (kv.1, y) else kv) (vs.map fun kv => if kv.1 = k then (kv.1, u) else kv) := by
  unfold KV at r ⊢
  induction r with
  | nil => exact .nil
  | @cons p q ps qs h t ih =>
    rw [List.map_cons, List.map_cons]
    refine .cons ?_ ih
    obtain ⟨h1, h2⟩ := h
    by_cases e : p.1 = k
    · rw [if_pos e, if_pos (h1.symm.trans e)]; exact ⟨h1, ry⟩
    · rw [if_neg e, if_neg (fun z => e (h1.trans z))]; exact ⟨h1, h2⟩
theorem KV.put {kvs : List (κ × V)} {vs : List (κ × Value)} (r : KV kvs vs) (k : κ) {y : V} {u : Value} (ry : RelV y u) : KV (putK kvs k y) (stored vs k u) := by
  unfold putK stored
  rw [r.any k]
  by_cases e : (vs.any fun kv => decide (kv.1 = k)) = true
  · rw [if_pos e, if_pos e]; exact r.repl k ry
  · rw [if_neg e, if_neg e]; exact Paired.snoc r ⟨rfl, ry⟩
theorem KV.drop {kvs : List (κ × V)} {vs : List (κ × Value)} (r : KV kvs vs) (k : κ) : KV (dropK kvs k) (without vs k) := by
  unfold KV at r ⊢
  unfold dropK without
  induction r with
  | nil => exact .nil
  | @cons p q ps qs h t ih =>
    obtain ⟨h1, h2⟩ := h
    rw [List.filter_cons, List.filter_cons]
    by_cases e : p.1 = k
    · have a : ¬ decide (p.1 ≠ k) = true := by simp [e]
      have b : ¬ decide (q.1 ≠ k) = true := by simp [h1.symm.trans e]
      rw [if_neg a, if_neg b]; exact ih
    · have e' : ¬ q.1 = k := fun z => e (h1.trans z)
      have a : decide (p.1 ≠ k) = true := by simp [e]
      have b : decide (q.1 ≠ k) = true := by simp [e']
      rw [if_pos a, if_pos b]; exact .cons ⟨h1, h2⟩ ih
theorem KV.keys {kvs : List (κ × V)} {vs : List (κ × Value)} (r : KV kvs vs) : kvs.map (·.1) = vs.map (·.1) := by
  unfold KV at r
  induction r with
  | nil => rfl
  | cons h t ih => rw [List.map_cons, List.map_cons, ih, h.1]
theorem KV.length {kvs : List (κ × V)} {vs : List (κ × Value)} (r : KV kvs vs) : kvs.length = vs.length := Paired.length r
end



theorem kV_is {P : Program} {w : World} {k : Key} {u : Value} (r : RelV (kV k) u) : (mixKind P w).is k u = true := by
  cases k with
  | inl i => obtain ⟨t, e⟩ := (show ∃ t, u = Value.int i t from r); subst e; exact mixKind_int P w i t
  | inr x => obtain ⟨t, e⟩ := (show ∃ t, u = Value.str x t from r); subst e; exact mixKind_str P w x t
theorem items_are {P : Program} {w : World} : ∀ {ks : List Key} {us : List Value}, Vals (ks.map kV) us → ItemsAre (mixKind P w) ks us
  | [], _, r => by rw [List.map_nil] at r; cases r; exact .nil
  | k :: ks, _, r => by
    rw [List.map_cons] at r
    cases r with
    | cons h t => exact .cons (kV_is h) (items_are t)


abbrev KT (H : Hp) : List (List Key × V) → List (List Key × Addr × Value) → Prop := Paired fun p q => p.1 = q.1 ∧ H q.2.1 = some (.tup (p.1.map kV)) ∧ RelV p.2 q.2.2
theorem KT.val {H : Hp} {kvs : List (List Key × V)} {xs : List (List Key × Addr × Value)} (r : KT H kvs xs) (k : List Key) : RelO (valV kvs k) ((atKey xs k).map (·.2)) := by
  induction r with
  | nil => exact True.intro
  | @cons p q ps qs h t ih =>
    obtain ⟨h1, _, h2⟩ := h
    by_cases e : p.1 = k
    · have e' : q.1 = k := h1.symm.trans e
      have b : atKey (q :: qs) k = some q.2 := by simp [atKey, List.find?_cons, e']
      rw [valV_pos e, b]; exact h2
    · have e' : ¬ q.1 = k := fun z => e (h1.trans z)
      have b : atKey (q :: qs) k = atKey qs k := by simp [atKey, List.find?_cons, e']
      rw [valV_neg e, b]; exact ih
theorem KT.repl {H : Hp} {kvs : List (List Key × V)} {xs : List (List Key × Addr × Value)} (r : KT H kvs xs) (k : List Key) {y : V} {u : Value} (ry : RelV y u) :
    KT H (kvs.map fun kv => if kv.1 = k then (kv.1, y) else kv) (xs.map (putAt k u)) := by
  induction r with
  | nil => exact .nil
  | @cons p q ps qs h t ih =>
    rw [List.map_cons, List.map_cons]
    refine .cons ?_ ih
    obtain ⟨h1, h2, h3⟩ := h
    unfold putAt
    by_cases e : p.1 = k
    · rw [if_pos e, if_pos (h1.symm.trans e)]; exact ⟨h1, h2, ry⟩
    · rw [if_neg e, if_neg (fun z => e (h1.trans z))]; exact ⟨h1, h2, h3⟩
theorem KT.put {H : Hp} {kvs : List (List Key × V)} {xs : List (List Key × Addr × Value)} (r : KT H kvs xs) (k : List Key) {b : Addr} {y : V} {u : Value} (hb : H b = some (.tup (k.map kV))) (ry : RelV y u) :
    KT H (putK kvs k y) (storedH xs k b u) := by
  have e : (kvs.any fun kv => decide (kv.1 = k)) = (atKey xs k).isSome := by
    rw [valV_any, (r.val k).isSome_eq, Option.isSome_map]
  unfold putK storedH
  rw [e]
  by_cases q : (atKey xs k).isSome = true
  · rw [if_pos q, if_pos q]; exact r.repl k ry
  · rw [if_neg q, if_neg q]; exact Paired.snoc r ⟨rfl, hb, ry⟩
theorem KT.keeps {H H' : Hp} {kvs : List (List Key × V)} {xs : List (List Key × Addr × Value)} (r : KT H kvs xs) (ht : ∀ b ys, H b = some (.tup ys) → H' b = some (.tup ys)) : KT H' kvs xs :=
  Paired.mapP r fun _ _ z => ⟨z.1, ht _ _ z.2.1, z.2.2⟩

section
variable {P : Program} {w : World} {H : Hp} {h : Heap} {a : Addr}
theorem rd_of {u : HO} (ok : HOk P w H h) (e : Rd H a u) : ObjOk P w H h a u := e.ok ok
theorem dk_rd {kvs : List (Key × V)} (ok : HOk P w H h) (e : Rd H a (.dK kvs)) : kvs.length ≤ sizeLine ∧ (a == sysModules) = false ∧ ∃ vs, KV kvs vs ∧ h.DictOf (mixKind P w) a vs :=
  show ObjOk P w H h a (.dK kvs) from rd_of ok e
theorem dk_of {kvs : List (Key × V)} (ok : HOk P w H h) (e : H a = some (.dK kvs)) : kvs.length ≤ sizeLine ∧ (a == sysModules) = false ∧ ∃ vs, KV kvs vs ∧ h.DictOf (mixKind P w) a vs := dk_rd ok (.inl e)

theorem key_of {ks : List Key} (ok : HOk P w H h) (e : H a = some (.tup (ks.map kV))) : (tupleKind (mixKind P w)).is h ks a := by
  obtain ⟨_, its, r, o, h1, h2, n, h3⟩ := (show ObjOk P w H h a (.tup (ks.map kV)) from ok a _ e)
  exact ⟨o, its.toArray, n, h1, h2, h3, by simpa using items_are r⟩
theorem dt_rd {kvs : List (List Key × V)} (ok : HOk P w H h) (e : Rd H a (.dT kvs)) : kvs.length ≤ sizeLine ∧ (a == sysModules) = false ∧
    ∃ xs, KT H kvs xs ∧ h.DictOfH (tupleKind (mixKind P w)) a xs := by
  obtain ⟨z, y, xs, r, o, es, ep, h1, h2, h3, h4, h5⟩ := (show ObjOk P w H h a (.dT kvs) from rd_of ok e)
  refine ⟨z, y, xs, r, o, es, ep, h1, h2, h3, h4, fun x hx => ?_, h5⟩
  have all : ∀ {l : List (List Key × V)} {m : List (List Key × Addr × Value)}, KT H l m → ∀ x ∈ m, (tupleKind (mixKind P w)).is h x.1 x.2.1 := by
    intro l m q
    induction q with
    | nil => intro x hx; exact nomatch hx
    | @cons p q ps qs hq t ih =>
      intro x hx
      rcases List.mem_cons.mp hx with e | hx
      · subst e
        exact key_of ok (by rw [← hq.1]; exact hq.2.1)
      · exact ih x hx
  exact all r x hx
theorem dt_of {kvs : List (List Key × V)} (ok : HOk P w H h) (e : H a = some (.dT kvs)) : kvs.length ≤ sizeLine ∧ (a == sysModules) = false ∧
    ∃ xs, KT H kvs xs ∧ h.DictOfH (tupleKind (mixKind P w)) a xs := dt_rd ok (.inl e)
end


def DGet (H : Hp) (a : Addr) (y : V) (r : Option V) : Prop :=
  (∃ kvs k, Rd H a (.dK kvs) ∧ y = kV k ∧ r = valV kvs k) ∨ ∃ kvs k b, Rd H a (.dT kvs) ∧ y = .ref b ∧ H b = some (.tup (k.map kV)) ∧ r = valV kvs k

def DPut (H : Hp) (a : Addr) (y v : V) (H' : Hp) : Prop :=
  (∃ kvs k, H a = some (.dK kvs) ∧ y = kV k ∧ kvs.length < sizeLine ∧ H' = upd H a (.dK (putK kvs k v))) ∨
  ∃ kvs k b, H a = some (.dT kvs) ∧ y = .ref b ∧ H b = some (.tup (k.map kV)) ∧ kvs.length < sizeLine ∧ H' = upd H a (.dT (putK kvs k v))
theorem DGet.k {H : Hp} {a : Addr} {kvs : List (Key × V)} {k : Key} (e : H a = some (.dK kvs)) : DGet H a (kV k) (valV kvs k) := .inl ⟨kvs, k, .inl e, rfl, rfl⟩
theorem DGet.t {H : Hp} {a b : Addr} {kvs : List (List Key × V)} {k : List Key} (e : H a = some (.dT kvs)) (eb : H b = some (.tup (k.map kV))) : DGet H a (.ref b) (valV kvs k) := .inr ⟨kvs, k, b, .inl e, rfl, eb, rfl⟩
theorem DPut.k {H : Hp} {a : Addr} {kvs : List (Key × V)} {k : Key} {v : V} (e : H a = some (.dK kvs)) (hl : kvs.length < sizeLine) : DPut H a (kV k) v (upd H a (.dK (putK kvs k v))) := .inl ⟨kvs, k, e, rfl, hl, rfl⟩
theorem DPut.t {H : Hp} {a b : Addr} {kvs : List (List Key × V)} {k : List Key} {v : V} (e : H a = some (.dT kvs)) (eb : H b = some (.tup (k.map kV))) (hl : kvs.length < sizeLine) :
    DPut H a (.ref b) v (upd H a (.dT (putK kvs k v))) := .inr ⟨kvs, k, b, e, rfl, eb, hl, rfl⟩


section
variable {X : Cx} {pins : List (Addr × Obj)} {σ : St} {H : Hp} {s : Shared} {a : Addr} {y v : V} {u r : Value} {o : Option V} {A : Around} {E : Value → Shared → Prop}

theorem Inv.big (I : Inv X pins σ H s) : sysModules < s.heap.objs.size := by
  have h : mainGlobals < s.heap.objs.size := (I.mod.glob.keeps I.bk).lt
  exact Nat.lt_trans (by decide) h


theorem d_getItem {Q : Value → Shared → Prop} (hu : A.units + 1 < cLine) (I : Inv X pins σ H s) (g : DGet H a y (some v)) (ry : RelV y u) (h : ∀ w' s', Inv X pins σ H s' → RelV v w' → Q w' s') :
    wpAny (model X.prog X.w) A (getItem (.ref a) u) Q E s := by
  rcases g with ⟨kvs, k, e, ey, l⟩ | ⟨kvs, k, b, e, ey, eb, l⟩
  · subst ey
    obtain ⟨z, hd, vs, rel, dd⟩ := dk_rd I.hok e
    obtain ⟨w', hw, rw'⟩ := RelO.some_of (v := v) (o := valueAt vs k) (by rw [l]; exact rel.val k)
    exact wpAny_getItem_of (kV_is ry) dd.mapOf hw (h w' _ (I.tok _) rw')
  · subst ey
    cases (show u = Value.ref b from ry)
    obtain ⟨z, hd, xs, rel, dd⟩ := dt_rd I.hok e
    obtain ⟨w', hw, rw'⟩ := RelO.some_of (v := v) (o := (atKey xs k).map (·.2)) (by rw [l]; exact rel.val k)
    obtain ⟨p, hp, hp2⟩ := Option.map_eq_some_iff.mp hw
    refine wpAny_getItem_heap (tupleKind_room_in1 hu) (key_of I.hok eb) dd hp ?_
    rw [hp2]
    exact h w' _ (I.tok _) rw'

theorem d_notIn {Q : Value → Shared → Prop} (hu : A.units + 1 < cLine) (I : Inv X pins σ H s) (g : DGet H a y o) (ry : RelV y u) (h : ∀ s', Inv X pins σ H s' → Q (.bool (!o.isSome)) s') :
    wpAny (model X.prog X.w) A (compareOp .NotIn u (.ref a)) Q E s := by
  rcases g with ⟨kvs, k, e, ey, l⟩ | ⟨kvs, k, b, e, ey, eb, l⟩
  · subst ey
    obtain ⟨z, hd, vs, rel, dd⟩ := dk_rd I.hok e
    refine wpAny_notIn_of (kV_is ry) hd dd.mapOf ?_
    rw [← (rel.val k).isSome_eq, ← l]
    exact h _ (I.tok _)
  · subst ey
    cases (show u = Value.ref b from ry)
    obtain ⟨z, hd, xs, rel, dd⟩ := dt_rd I.hok e
    refine wpAny_notIn_heap (tupleKind_room_in1 hu) (key_of I.hok eb) hd dd ?_
    have q := (rel.val k).isSome_eq
    rw [Option.isSome_map] at q
    rw [← q, ← l]
    exact h _ (I.tok _)

theorem d_write {h' : Heap} {t' : Nat} {ob : HO} (I : Inv X pins σ H s) (mu : Mut (H a)) (hs : Heap.SameBut a s.heap h') (he : ∃ q, h'.get? a = some q) (new : ObjOk X.prog X.w (upd H a ob) h' a ob) :
    Inv X pins σ (upd H a ob) { s with heap := h', toks := t' } :=
  I.write (x := a) (e := a) mu (.inl rfl) (fun b q hb z => (hs.2 b hb).trans z) he new
theorem dk_new {P : Program} {w : World} {H' : Hp} {h' : Heap} {kvs : List (Key × V)} {vs : List (Key × Value)} (z : kvs.length ≤ sizeLine) (hd : (a == sysModules) = false) (rel : KV kvs vs) (dd : h'.DictOf (mixKind P w) a vs) :
    ObjOk P w H' h' a (.dK kvs) := ⟨z, hd, vs, rel, dd⟩

theorem d_setItem {H' : Hp} {Q : Unit → Shared → Prop} (hu : A.units + 1 < cLine) (I : Inv X pins σ H s) (g : DPut H a y v H') (ry : RelV y u) (rv : RelV v r) (h : ∀ s', Inv X pins σ H' s' → Q () s') :
    wpAny (model X.prog X.w) A (setItem (.ref a) u r) Q E s := by
  rcases g with ⟨kvs, k, e, ey, l, eH⟩ | ⟨kvs, k, b, e, ey, eb, l, eH⟩
  · subst ey eH
    obtain ⟨z, hd, vs, rel, dd⟩ := dk_of I.hok e
    have hz : vs.length ≤ sizeLine := by rw [← rel.length]; exact z
    have hl : (putK kvs k v).length ≤ sizeLine := by have := length_putK kvs k v; omega
    refine wpAny_setItem_pairs (hsz := hz) (kV_is ry) dd fun h' dd' hs => h _ ?_
    have he : ∃ q, h'.get? a = some q := let ⟨q, _, _, hq, _⟩ := dd'; ⟨q, hq⟩
    exact d_write I (by rw [e]; exact True.intro) hs he (dk_new hl hd (rel.put k rv) dd')
  · subst ey eH
    cases (show u = Value.ref b from ry)
    obtain ⟨z, hd, xs, rel, dd⟩ := dt_of I.hok e
    have hz : xs.length ≤ sizeLine := by rw [← Paired.length rel]; exact z
    have hl : (putK kvs k v).length ≤ sizeLine := by have := length_putK kvs k v; omega
    refine wpAny_setItem_heap (hsz := hz) (tupleKind_room_in1 hu) (key_of I.hok eb) dd fun h' dd' hs => h _ ?_
    obtain ⟨q, es, ep, hq, h2, h3, h4, _, h5⟩ := dd'
    refine d_write I (by rw [e]; exact True.intro) hs ⟨q, hq⟩ ⟨hl, hd, _, (rel.put k eb rv).keeps fun c ys ec => ?_, q, es, ep, hq, h2, h3, h4, h5⟩
    rw [upd_ne (ne_of ec e (fun z => nomatch z))]
    exact ec
end

section
variable {X : Cx} {pins : List (Addr × Obj)} {σ : St} {H : Hp} {s : Shared} {a : Addr} {kvs : List (Key × V)} {k : Key} {u : Value} {A : Around} {E : Value → Shared → Prop}

end




def NoSl (i : Expr) : Prop := ∀ ov iv, subscripted i false ov iv = operate [ov, iv] (getItem ov iv)
theorem subD_of {prog : Program} {w : World} {A : Around} {E : Value → Shared → Prop} {s : Shared} {env : Env} {value slice : Expr} {pos : Pos} {T id : String} {Q : Value → Shared → Prop}
    (hl : typeLookup (.type T) "__getitem__" = pure (some (.builtin id))) (hs : NoSl slice)
    (h : wpAny (model prog w) A (eval value env) (fun o s₁ => wpAny (model prog w) A (eval slice env) (fun i s₂ => s₂.TypeIs o T ∧ wpAny (model prog w) A (getItem o i) Q E s₂) E s₁) E s) :
    wpAny (model prog w) A (eval (.Subscript value slice pos) env) Q E s := by
  refine Subscript_ (wpAny_mono h (fun o s₁ h₁ => wpAny_mono h₁ (fun i s₂ h₂ => ?_) fun _ _ x => x) fun _ _ x => x)
  obtain ⟨hT, h₂⟩ := h₂
  unfold subscriptTail
  refine wpAny_bind ?_
  rw [getitemInPython_of_ne hT.not_modules]
  refine wpAny_bind (wpAny_specialOf hT hl ?_)
  have fin : wpAny (model prog w) A (subscripted slice false o i) (fun r s₃ => wpAny (model prog w) A (letTemporaryGo value o r >>= fun _ => pure r) Q E s₃) E s₂ := by
    rw [hs o i]
    exact wpAny_operating (wpAny_mono h₂ (fun r s₃ h₃ => wpAny_bind (wpAny_letTemporaryGo (wpAny_pure h₃))) fun _ _ x => x)
  first
    | exact wpAny_pure (wpAny_bind fin)
    | exact wpAny_bind (wpAny_pure (wpAny_bind fin))
    | exact wpAny_bind fin

theorem dict_typeIs {X : Cx} {pins : List (Addr × Obj)} {σ : St} {H : Hp} {s : Shared} {a : Addr} {y : V} {o : Option V} (I : Inv X pins σ H s) (g : DGet H a y o) : s.TypeIs (.ref a) "dict" := by
  rcases g with ⟨kvs, k, e, _, _⟩ | ⟨kvs, k, b, e, _, _, _⟩
  · obtain ⟨_, _, vs, _, dd⟩ := dk_rd I.hok e
    exact dd.typeIs
  · obtain ⟨_, _, xs, _, dd⟩ := dt_rd I.hok e
    exact dd.typeIs
def tDGet (td ty : TE) : TE := fun σ H Q => td σ H fun x H1 => ty σ H1 fun y H2 => ∃ a v, x = .ref a ∧ DGet H2 a y (some v) ∧ Q v H2

def tDIn (ty td : TE) : TE := fun σ H Q => ty σ H fun y H1 => td σ H1 fun x H2 => ∃ a o, x = .ref a ∧ DGet H2 a y o ∧ Q (.bl o.isSome) H2
def tDNotIn (ty td : TE) : TE := fun σ H Q => ty σ H fun y H1 => td σ H1 fun x H2 => ∃ a o, x = .ref a ∧ DGet H2 a y o ∧ Q (.bl (!o.isSome)) H2

def sDPut (td ty tv : TE) : TS := fun D σ H => tv σ H fun v H1 => td σ H1 fun x H2 => ty σ H2 fun y H3 => ∃ a H4, x = .ref a ∧ DPut H3 a y v H4 ∧ D.nx σ H4

def sDAug (td ty tv : TE) (rd : V → V → Hp → VK → Prop) : TS := fun D σ H => td σ H fun x H1 => ty σ H1 fun y H2 => ∃ a v, x = .ref a ∧ DGet H2 a y (some v) ∧
  tv σ H2 fun y2 H3 => rd v y2 H3 fun z H4 => ∃ H5, DPut H4 a y z H5 ∧ D.nx σ H5

def sDDel (td ty : TE) : TS := fun D σ H => td σ H fun x H1 => ty σ H1 fun y H2 => ∃ a kvs k, x = .ref a ∧ H2 a = some (.dK kvs) ∧ y = kV k ∧ (valV kvs k).isSome = true ∧ D.nx σ (upd H2 a (.dK (dropK kvs k)))

section
variable {X : Cx} {o i e value : Expr} {pos pos' tpos : Pos} {td ty tv : TE}
theorem pe_dget (hu : X.A.units + 1 < cLine) (ho : PE X o td) (hi : PE X i ty) (hs : NoSl i) : PE X (.Subscript o i pos) (tDGet td ty) := by
  intro pins s σ H Q I h
  refine subD_of PySem.F.slot_dict_getitem.lookup hs (thn (ho pins s σ H _ I h) fun u s1 ⟨x, H1, I1, rx, q1⟩ => thn (hi pins s1 σ H1 _ I1 q1) fun iv s2 ⟨y, H2, I2, ry, a, v, ex, g, q2⟩ => ?_)
  subst ex
  obtain rfl : u = Value.ref a := rx
  exact ⟨dict_typeIs I2 g, d_getItem hu I2 g ry fun w' s3 I3 rw' => ⟨v, H2, I3, rw', q2⟩⟩
theorem pc_dnotin (hu : X.A.units + 1 < cLine) (hi : PE X i ty) (ho : PE X o td) : PC X .NotIn i o (tDNotIn ty td) := by
  intro pins s σ H Q I h
  refine thn (hi pins s σ H _ I h) fun iv s1 ⟨y, H1, I1, ry, q1⟩ => thn (ho pins s1 σ H1 _ I1 q1) fun u s2 ⟨x, H2, I2, rx, a, ov, ex, g, q2⟩ => ?_
  subst ex
  obtain rfl : u = Value.ref a := rx
  exact d_notIn hu I2 g ry fun s3 I3 => ⟨.bl (!ov.isSome), H2, I3, rfl, q2⟩
theorem ps_dput (hu : X.A.units + 1 < cLine) (ho : PE X o td) (hi : PE X i ty) (hv : PE X value tv) (hs : swapsWith value (some (.Subscript o i pos')) pos.line X.env = pure false) :
    PS X (.Assign [.Subscript o i pos'] value pos) (sDPut td ty tv) := by
  intro pins s σ H D I h
  refine wpAny_Assign_Subscript (thn (hv pins s σ H _ I h) fun r s1 ⟨v, H1, I1, rv, q1⟩ => thn (ho pins s1 σ H1 _ I1 q1) fun u s2 ⟨x, H2, I2, rx, q2⟩ => thn (hi pins s2 σ H2 _ I2 q2) fun iv s3 ⟨y, H3, I3, ry, a, H4, ex, g, q3⟩ => ?_) hs
  subst ex
  obtain rfl : u = Value.ref a := rx
  exact d_setItem hu I3 g ry rv fun s4 I4 => ⟨σ, H4, I4, q3⟩
end



theorem dk_empty {P : Program} {w : World} {H : Hp} (h : Heap) (hb : sysModules < h.objs.size) : ObjOk P w H (h.push { cls := .type "dict", data := .dict #[] }) h.objs.size (.dK []) :=
  ⟨Nat.zero_le _, beq_eq_false_iff_ne.mpr (Ne.symm (Nat.ne_of_lt hb)), [], .nil, Heap.DictOf.new h⟩
def tDNewK : TE := fun _ H Q => ∀ p, H p = none → Q (.ref p) (upd H p (.dK []))
def tDNewT : TE := fun _ H Q => ∀ p, H p = none → Q (.ref p) (upd H p (.dT []))
section
variable {X : Cx} {pos : Pos}
theorem pe_dnewK : PE X (.Dict [] [] pos) tDNewK := fun pins s σ H Q I h =>
  wpAny_Dict_empty ⟨.ref s.heap.objs.size, _, I.laid (a := s.heap.objs.size) (o := .dK []) (t' := s.toks) (fun _ _ q => Heap.get?_push_of_some _ q) (Nat.le_refl _) (dk_empty s.heap I.big), rfl, h _ (I.hok.fresh (Nat.le_refl _))⟩
end


def tPairs : List (TE × TE) → St → Hp → (List (V × V) → Hp → Prop) → Prop
  | [], _, H, Q => Q [] H
  | (tk, tv) :: r, σ, H, Q => tk σ H fun x H1 => tv σ H1 fun y H2 => tPairs r σ H2 fun ps H3 => Q ((x, y) :: ps) H3
abbrev VV : List (V × V) → List (Value × Value) → Prop := Paired fun p q => RelV p.1 q.1 ∧ RelV p.2 q.2
def PPs (X : Cx) (pos : Pos) (keys : List (Option Expr)) (values : List Expr) (trs : List (TE × TE)) : Prop :=
  ∀ (pins : List (Addr × Obj)) (s : Shared) (σ : St) (H : Hp) (Q : List (V × V) → Hp → Prop), Inv X pins σ H s → tPairs trs σ H Q →
    wpAny (model X.prog X.w) X.A (evalPairs (pairTrees keys values X.env pos)) (fun vs s' => ∃ ps H', Inv X pins σ H' s' ∧ VV ps vs ∧ Q ps H') X.xe s
def mergeK (kvs more : List (Key × V)) : List (Key × V) := more.foldl (fun acc kv => putK acc kv.1 kv.2) kvs
def tDisp (trs : List (TE × TE)) : TE := fun σ H Q => ∀ p, H p = none → tPairs trs σ (upd H p (.dK [])) fun ps H2 => H2 p = some (.dK []) ∧ ∃ kvs : List (Key × V), ps = kvs.map (fun kv => (kV kv.1, kv.2)) ∧ kvs.length ≤ 15 ∧ Q (.ref p) (upd H2 p (.dK (mergeK [] kvs)))
structure M1 (X : Cx) (o : Expr) (m : Str) (apos : Pos) (e : Expr) (cpos : Pos) : Prop where
  base : attributeBase o m X.env (eval o X.env) = eval o X.env
  few : ((backTo cpos (starEach [e] X.env)).all (fun x => !x.1) && (backToKw cpos (keywordEach [] X.env)).all (fun x => x.1.isSome)
    && decide (([e] : List Expr).length + ([] : List Keyword).length + (if ([] : List Keyword).isEmpty then 0 else 1) < 30)) = true
  line : (apos.endLine == cpos.line) = true
  trees : backTo cpos (starEach [e] X.env) = [(false, eval e X.env)]
structure M2 (X : Cx) (o : Expr) (m : Str) (apos : Pos) (e f : Expr) (cpos : Pos) : Prop where
  base : attributeBase o m X.env (eval o X.env) = eval o X.env
  few : ((backTo cpos (starEach [e, f] X.env)).all (fun x => !x.1) && (backToKw cpos (keywordEach [] X.env)).all (fun x => x.1.isSome)
    && decide (([e, f] : List Expr).length + ([] : List Keyword).length + (if ([] : List Keyword).isEmpty then 0 else 1) < 30)) = true
  line : (apos.endLine == cpos.line) = true
  trees : backTo cpos (starEach [e, f] X.env) = [(false, eval e X.env), (false, eval f X.env)]


def IsD (H : Hp) (a : Addr) : Prop := (∃ kvs, Rd H a (.dK kvs)) ∨ ∃ kvs, Rd H a (.dT kvs)
section
variable {X : Cx} {pins : List (Addr × Obj)} {σ : St} {H : Hp} {s : Shared} {a : Addr} {y d : V} {u r : Value} {o : Option V} {A : Around} {E : Value → Shared → Prop}

end

def tDGet1 (td ty : TE) : TE := fun σ H Q => td σ H fun x H1 => ∃ a, x = .ref a ∧ IsD H1 a ∧ ty σ H1 fun y H2 => ∃ o, DGet H2 a y o ∧ Q (o.getD .non) H2
def tDGet2 (td ty tx : TE) : TE := fun σ H Q => td σ H fun x H1 => ∃ a, x = .ref a ∧ IsD H1 a ∧ ty σ H1 fun y H2 => tx σ H2 fun z H3 => ∃ o, DGet H3 a y o ∧ Q (o.getD z) H3

def tDPop1 (td ty : TE) : TE := fun σ H Q => td σ H fun x H1 => ∃ a, x = .ref a ∧ IsD H1 a ∧ ty σ H1 fun y H2 => ∃ kvs k v, H2 a = some (.dK kvs) ∧ y = kV k ∧ valV kvs k = some v ∧ Q v (upd H2 a (.dK (dropK kvs k)))
def tDPop2 (td ty tx : TE) : TE := fun σ H Q => td σ H fun x H1 => ∃ a, x = .ref a ∧ IsD H1 a ∧ ty σ H1 fun y H2 => tx σ H2 fun z H3 => ∃ kvs k, H3 a = some (.dK kvs) ∧ y = kV k ∧
  (∀ v, valV kvs k = some v → Q v (upd H3 a (.dK (dropK kvs k)))) ∧ (valV kvs k = none → Q z H3)
section
variable {X : Cx} {o e f : Expr} {apos cpos : Pos} {td ty tx : TE}
end


section
variable {X : Cx} {pins : List (Addr × Obj)} {σ : St} {H : Hp} {s : Shared} {a : Addr} {kvs : List (Key × V)} {A : Around} {E : Value → Shared → Prop}
end


section
variable {X : Cx} {pins : List (Addr × Obj)} {σ : St} {H : Hp} {s : Shared} {a : Addr} {y : V} {u : Value} {A : Around} {E : Value → Shared → Prop}

end
end L2

namespace Att
open PySem PySem.W PySem.Calls PyProof.Rows


theorem ints_of_wellAll {P : Params} {h : Heap} : ∀ (ns : List Int) (vs : List Value), WellAll P h vs (ns.map WData.int) → IntsAre vs ns := by
  intro ns
  induction ns with
  | nil =>
    intro vs w
    rw [List.map_nil] at w
    cases w
    exact .nil
  | cons n ns ih =>
    intro vs w
    rw [List.map_cons] at w
    cases w with
    | cons a b =>
      cases a
      exact .cons _ _ (ih _ b)

theorem script_of {l : OpenLaw} {n : Nat} (hn : l.most = some n) {P : Params} {h : Heap} {args : List WData} {vals : List Value}
    (hpre : l.row.toRowW.claim.pre args = true) (hwl : WellAll P h vals args) :
    ∃ a vs ns, vals = [Value.ref a] ∧ args = [WData.list (ns.map WData.int)] ∧ h.get? a = some { cls := .type "list", data := .seq vs.toArray } ∧ IntsAre vs ns ∧ ns.length ≤ n := by
  have hsh : WShape.hasAll [] args [.list .int] = true := (pre_splitW hpre).1
  have hc : l.pre.holds [] { args := args } = true := (pre_splitW hpre).2
  obtain ⟨d, r, rfl, h1, h2⟩ := hasAllW_cons hsh
  obtain rfl := hasAllW_nil h2
  obtain ⟨xs, rfl, h3⟩ := hasW_list h1
  obtain ⟨ns, rfl⟩ := items_int h3
  have hlen : ns.length ≤ n := by
    unfold OpenLaw.pre at hc
    have h4 : (WTm.not (.lt (.lit (.int (n : Int))) (.len (.arg 0)))).holds [] { args := [.list (ns.map .int)] } = true := by
      have h4 := (holds_andW hc).1
      rw [hn] at h4
      exact h4
    have h5 := condW_of h4 (w_not (w_lt w_lit (w_len_list (w_arg rfl))))
    rw [List.length_map] at h5
    refine Nat.le_of_not_lt fun q => ?_
    have q' : (n : Int) < ((ns.length : Nat) : Int) := by omega
    first
      | (rw [decide_eq_true q'] at h5; exact absurd h5 (by decide))
      | (simp at h5; omega)
  cases hwl with
  | cons w1 w2 =>
    cases w2
    cases w1 with
    | list ho hall => exact ⟨_, _, ns, rfl, rfl, ho, ints_of_wellAll ns _ hall, hlen⟩

theorem post_true (l : OpenLaw) (args : List WData) : l.row.toRowW.claim.post args (.bool true) args = true :=
  postW_of (r := l.row.toRowW) (X := (true == true))
    (show WShape.has [] (.bool true) .bool = true by first | rfl | decide | simp [WShape.has, WShape.arms, WShape.armsAll])
    (show (WTm.eq .res (.lit (.bool true))).value [] { args := args, res := some (.bool true), after := args } = some (.bool (true == true)) from w_eq_bool (w_res rfl) w_lit) rfl


theorem attach_call {l : OpenLaw} {n : Nat} {q : Program} {loose : List Str} {XP : (Str → Option Value) → Heap → Prop} {YP : World → Heap → Prop} {d : DefRec}
    (hn : l.most = some n) (hdf : d.params.defaults = [])
    (call : ∀ (w : World) (s₀ s₁ : Shared) (mg mb : Str → Option Value) (fa : Addr) (o : Obj) (pm cd doc : Value) (a : Addr) (vs : List Value) (ns : List Int),
      Ground q loose [] XP w s₀ mg mb s₁.heap → YP w s₁.heap →
      s₁.heap.get? fa = some o → o.data = .func (docDef d.name d.params d.body d.scope pm cd doc) → s₁.heap.CodeRec cd d.name → mg d.name = some (.ref fa) →
      s₁.heap.get? a = some { cls := .type "list", data := .seq vs.toArray } → IntsAre vs ns → ns.length ≤ n → s₁.gens = #[] →
      codeAny (model l.prog w) callerA (.call (.ref fa) ⟨[.ref a], []⟩) (fun r s' => r = .ok (.ret (.bool true)) ∧ OldK s₁.heap s'.heap ∧ s'.os = s₁.os ∧ AllBare s'.gens) s₁) :
    WalkO q loose XP YP l.row.toRowW d [] (fun f vs => PySem.call f vs) := by
  intro w s₀ s₁ mg mb G Y fa o pm cd doc dV kV ho hd hcd hD hmg hg args vals as hpre hlay hrd hwl hlo
  obtain rfl : dV = .none := Dflts.none hD hdf
  obtain rfl : kV = .none := Dflts.noKw hD
  obtain ⟨a, vs, ns, rfl, rfl, hobj, hints, hlen⟩ := script_of hn hpre hwl
  refine enter_call (codeAny_mono (call w s₀ s₁ mg mb fa o pm cd doc a vs ns G Y ho (fd_plain hd) hcd hmg hobj hints hlen hg) fun r s' hq => ?_)
  obtain ⟨rfl, h2, h3, h4⟩ := hq
  exact ⟨.inl ⟨.bool true, .bool true, [], rfl, fun _ => rfl, .bool true, post_true l _, fun _ => ⟨List.Pairwise.nil, fun _ hm => (nomatch hm)⟩⟩, h2, h3, h4⟩


section
variable {prog : Program} {w : World} {A : Around} {E : Value → Shared → Prop} {s : Shared} {K : Frag}


def noObjs (h : Heap) : Heap := { h with objs := #[] }
def ledger (h : Heap) (L d : Addr) : List (Addr × Obj) := (List.range h.objs.size).filterMap fun a => if a = L ∨ a = d then none else (h.get? a).map fun o => (a, o)
end
end Att

namespace L2
open PySem PySem.Spec PyProof.Rows

theorem vals_ints : ∀ {vs : List Value} {ns : List Int}, IntsAre vs ns → Vals (ns.map V.int) vs
  | _, _, .nil => .nil
  | _, _, .cons n t h => .cons ⟨t, rfl⟩ (vals_ints h)


def Only (H : Hp) : Prop := ∀ b, H b = none ∨ ∃ o xs, H b = some (.frz o (.lst xs))


theorem law_call {P : Program} {w : World} {K : PySem.W.Frag} {mg mb : Str → Option Value} {CX : CXT} {k : Nat} {fa a : Addr} {fd : FuncData} {x : Str} {sp : Sp} {s₁ : Shared} {vs : List Value} {ns : List Int}
    (KX : K.In s₁.heap) (hns : s₁.heap.Ns mainGlobals mg) (hb : s₁.heap.Ns builtinsNs mb) (hbb : ∀ x : Str, x ≠ "__name__" → mb x = bootBuiltins x) (hlim : s₁.heap.NoLimit) (hg : s₁.gens = #[])
    (ha : s₁.heap.get? a = some { cls := .type "list", data := .seq vs.toArray }) (hi : IntsAre vs ns) (hl : ns.length ≤ sizeLine) (hr : Room k callerA)
    (F : ∀ base : Heap, K.In base → base.Ns mainGlobals mg → FnOk P w K mg base CX k fa fd [x] sp) (hbind : ∀ (s : Shared) (u : Value), BindsTo s fd ⟨[u], []⟩ [(x, u)])
    (hsp : ∀ H : Hp, Only H → SqL K H a (ns.map V.int) → sp [.ref a] H (fun v _ => v = .bl true) fun _ _ _ => False)
    (hCX : ∀ H e s', CX [] H s₁ (fun _ _ _ => False) e s' → False) :
    codeAny (model P w) callerA (.call (.ref fa) ⟨[.ref a], []⟩) (fun r s' => r = .ok (.ret (.bool true)) ∧ OldK s₁.heap s'.heap ∧ s'.os = s₁.os ∧ AllBare s'.gens) s₁ := by
  have rv := vals_ints hi
  have lenV := hi.length
  -- from an abstract heap in which nothing but the script may be tracked
  have core : ∀ H : Hp, Only H → SqL K H a (ns.map V.int) → HOk P w H s₁.heap → (∀ b, H b ≠ none → b = a) → (H a ≠ none → K.lookup a = none) →
      codeAny (model P w) callerA (.call (.ref fa) ⟨[.ref a], []⟩) (fun r s' => r = .ok (.ret (.bool true)) ∧ OldK s₁.heap s'.heap ∧ s'.os = s₁.os ∧ AllBare s'.gens) s₁ := by
    intro H hO hS hok hA hK
    have base_of : ∀ {b : Addr} {o : Obj}, s₁.heap.get? b = some o → H b = none → (hidT s₁.heap H).get? b = some o := fun e n => hidT_get e n
    have noA : ∀ {b : Addr} {o : Obj} {es : Array DictEntry} {ep : Nat}, s₁.heap.get? b = some o → o.data = .dict es ep → H b = none := fun {b o es ep} e d => by
      cases q : H b with
      | none => rfl
      | some u =>
        have e' : b = a := hA b (by rw [q]; simp)
        subst e'
        rw [ha] at e; cases e
        have d' : Data.seq vs.toArray _ = Data.dict es ep := d
        cases d'
    have nsK : ∀ {b : Addr} {m : Str → Option Value}, s₁.heap.Ns b m → (hidT s₁.heap H).Ns b m := fun {b m} ⟨o, es, ep, e, d, r⟩ => ⟨o, es, ep, base_of e (noA e d), d, r⟩
    have hKb : K.In (hidT s₁.heap H) := fun b o e => base_of (KX b o e) (by
      cases q : H b with
      | none => rfl
      | some u =>
        have e' : b = a := hA b (by rw [q]; simp)
        subst e'
        rw [hK (by rw [q]; simp)] at e; cases e)
    have hM : Mod K mg (hidT s₁.heap H) := ⟨hKb, nsK hns, ⟨mb, nsK hb, hbb⟩, let ⟨mc, h1, h2⟩ := hlim; ⟨mc, nsK h1, h2⟩⟩
    have e0 : Env0 P w K mg (hidT s₁.heap H) callerA [] s₁ H := ⟨rfl, hM, fun b o e => of_hidT e, Nat.le_of_eq (hidT_size _ _), trivial, fun b hb => absurd (show b ∈ ([] : List Addr) from hb) (by simp), hok, .of_eq hg⟩
    refine codeAny_mono ((F _ hKb (nsK hns)).run callerA [] s₁ H ⟨[.ref a], []⟩ [.ref a] [.ref a] _ _ hr e0 (hbind s₁ (.ref a)) (.cons rfl .nil) (hsp H hO hS)) fun r s' h => ?_
    cases r with
    | error e => exact (hCX H e s' h).elim
    | ok fl =>
      cases fl with
      | next => exact False.elim h
      | brk => exact False.elim h
      | cont => exact False.elim h
      | ret u =>
        obtain ⟨v, H', os, bare, un, hok', r', q⟩ := h
        have q' : v = .bl true := q
        subst q'
        obtain rfl : u = Value.bool true := r'
        refine ⟨rfl, OldK.of_keep fun b o e => ?_, os, bare⟩
        cases q : H b with
        | none => exact un.keep b o e q (by intro z; exact absurd (show b ∈ ([] : List Addr) from z) (by simp)) (by simp)
        | some u =>
          rcases hO b with z | ⟨ob, xs, z⟩
          · rw [q] at z; cases z
          · have z2 := un.frzs b ob _ z
            obtain ⟨e1, _⟩ := hok b _ z
            obtain ⟨e2, _⟩ := hok' b _ z2
            rw [e] at e1; cases e1
            exact e2
  cases hk : K.lookup a with
  | some o =>
    -- the script is one of the module's own objects
    have e := KX a o hk
    rw [ha] at e
    cases e
    refine core (fun _ => none) (fun _ => .inl rfl) (.inr ⟨_, vs.toArray, _, hk, rfl, rfl, rfl, by rw [List.size_toArray, lenV]; exact hl, by simpa using rv⟩) (fun b u z => by have z' : (none : Option HO) = some u := z; cases z') (fun b z => absurd rfl z) fun z => absurd rfl z
  | none =>
    refine core (fun b => if b = a then some (.frz { cls := .type "list", data := .seq vs.toArray } (.lst (ns.map V.int))) else none) (fun b => ?_) (.inl (.inr ⟨{ cls := .type "list", data := .seq vs.toArray }, if_pos rfl⟩)) (fun b u z => ?_) (fun b z => ?_) fun _ => hk
    · by_cases hb : b = a
      · exact .inr ⟨_, _, if_pos hb⟩
      · exact .inl (if_neg hb)
    · by_cases hb : b = a
      · have z' := (if_pos hb).symm.trans z
        cases z'
        subst hb
        exact ⟨ha, by rw [List.length_map]; exact hl, vs, _, rv, ha⟩
      · have z' := (if_neg hb).symm.trans z
        cases z'
    · by_cases hb : b = a
      · exact hb
      · exact absurd (if_neg hb) z
end L2

namespace L2
open PySem PySem.Spec PyProof.Rows

abbrev KOf {K : PySem.W.Frag} {h : Heap} (_ : K.In h) : PySem.W.Frag := K


theorem walk_of {l : PySem.W.OpenLaw} {n k : Nat} {q : Program} {loose : List Str} {XP : (Str → Option Value) → Heap → Prop} {YP : World → Heap → Prop} {d : DefRec} {K : Params → PySem.W.Frag} {CX : World → CXT} {sp : World → Sp} {x : Str}
    (hn : l.most = some n) (hn2 : n ≤ sizeLine) (hdf : d.params.defaults = []) (hr : Room k callerA)
    (hY : ∀ (w : World) (h : Heap), YP w h → (K w.params).In h)
    (F : ∀ (w : World) (mg : Str → Option Value) (fa : Addr) (h : Heap), (K w.params).In h → h.Ns mainGlobals mg → mg d.name = some (.ref fa) →
      ∃ fd : FuncData, (∀ (s : Shared) (u : Value), BindsTo s fd ⟨[u], []⟩ [(x, u)]) ∧
        ∀ base : Heap, (K w.params).In base → base.Ns mainGlobals mg → FnOk l.prog w (K w.params) mg base (CX w) k fa fd [x] (sp w))
    (hsp : ∀ (w : World) (H : Hp) (a : Addr) (ns : List Int), ns.length ≤ n → Only H → SqL (K w.params) H a (ns.map V.int) → sp w [.ref a] H (fun v _ => v = .bl true) fun _ _ _ => False)
    (hCX : ∀ (w : World) (H : Hp) (s : Shared) (e : Value) (s' : Shared), CX w [] H s (fun _ _ _ => False) e s' → False) :
    PySem.W.WalkO q loose XP YP l.row.toRowW d [] (fun f vs => PySem.call f vs) := by
  refine Att.attach_call hn hdf fun w s₀ s₁ mg mb fa o pm cd doc a vs ns G Y ho hd hcd hmg hobj hints hlen hg => ?_
  have KX := hY w _ Y
  obtain ⟨fd, hb, hF⟩ := F w mg fa _ KX G.T.g hmg
  exact law_call KX G.T.g G.T.b G.T.builtins G.T.nolimit hg hobj hints (Nat.le_trans hlen hn2) hr hF hb (fun H hO hS => hsp w H a ns hlen hO hS) fun H e s' => hCX w H s₁ e s'

end L2




namespace L2
open PySem PySem.Spec PyProof.Rows



def inClass (s : Stmt) (j : Nat) : Stmt := match s with
  | .ClassDef _ _ _ body _ _ _ _ _ _ _ => body.getD j (.Pass ⟨0, 0, 0, 0⟩)
  | _ => .Pass ⟨0, 0, 0, 0⟩
def defArgs (s : Stmt) : Arguments := match s with
  | .FunctionDef _ a _ _ _ _ _ _ _ _ => a
  | _ => { posonlyargs := [], args := [], vararg := none, kwonlyargs := [], kw_defaults := [], kwarg := none, defaults := [] }
def defBody (s : Stmt) : List Stmt := match s with
  | .FunctionDef _ _ b _ _ _ _ _ _ _ => b
  | _ => []
def defScope (s : Stmt) : Scope := match s with
  | .FunctionDef _ _ _ _ _ _ sc _ _ _ => sc
  | _ => { kind := .function, names := [], isGenerator := false, isCoroutine := false }


abbrev CX0 : CXT := fun _ _ _ _ _ _ => False
abbrev E0 : XK := fun _ _ _ => False
theorem pass0 {X : Cx} : Passes CX0 X E0 := fun _ _ _ _ _ _ _ h => h.elim


structure Fun (K : PySem.W.Frag) (x qual : Str) (st : Stmt) (f : Addr) (fd : FuncData) : Prop where
  ex : ∃ (oc : Value) (od : Option Addr) (kV doc pm : Value) (an : Option Addr) (cdv ct : Value) (osl : Array (Option Value)),
    fd = PySem.W.fnOf x qual (defArgs st) (defBody st) (defScope st) .none kV doc pm an cdv ct ∧ K.lookup f = some ⟨oc, od, .func fd, osl⟩ ∧ PySem.W.codeIn K cdv qual = true
  kp : PySem.W.keepIn K (.ref f) = true
section
variable {P : Program} {w : World} {K : PySem.W.Frag} {mg : Str → Option Value} {base : Heap}

theorem Fun.ok {x qual : Str} {st : Stmt} {f : Addr} {fd : FuncData} {N ps : List Str} {k : Nat} {sp : Sp} (F : Fun K x qual st f fd) (S : FnScope N ps (defScope st)) (len : ∀ vs H Q E, sp vs H Q E → vs.length = ps.length)
    (hbody : ∀ (cdv : Value) (A : Around) (outer : List Env) (s : Shared) (H : Hp) (vs : List V) (Q : VK) (E : XK), Room k (A.deeper (envOfC qual (defScope st) s.heap.objs.size f cdv)) → sp vs H Q E →
      ∃ t, PSs (cxOf CX0 P w K mg base N qual (defScope st) f cdv A outer s H E).nox (defBody st) t ∧ t { nx := fun _ H' => Q .non H', rt := Q } (start N vs) H) : FnOk P w K mg base CX0 (k + 1) f fd ps sp := by
  obtain ⟨oc, od, kV, doc, pm, an, cdv, ct, osl, rfl, lk, hcd⟩ := F.ex
  refine fn_of lk hcd S len fun A outer s H vs Q E hr hsp => ?_
  obtain ⟨t, h, q⟩ := hbody cdv A outer s H vs Q E hr hsp
  exact ⟨t, h.nox, q⟩

theorem Fun.binds {x qual : Str} {st : Stmt} {f : Addr} {fd : FuncData} {ps : List Str} (F : Fun K x qual st f fd)
    (h : ∀ (kV doc pm : Value) (an : Option Addr) (cdv ct : Value) (us : List Value), us.length = ps.length → bindArgs (PySem.W.fnOf x qual (defArgs st) (defBody st) (defScope st) .none kV doc pm an cdv ct) ⟨us, []⟩ = pure (ps.zip us)) : Binds K fd ps [] := by
  obtain ⟨oc, od, kV, doc, pm, an, cdv, ct, osl, rfl, lk, hcd⟩ := F.ex
  exact .all (h kV doc pm an cdv ct)
theorem fun_mk {x qual : Str} {st : Stmt} {f : Addr} {oc : Value} {od an : Option Addr} {osl : Array (Option Value)} {kV doc pm cdv ct : Value} (l : K.lookup f = some ⟨oc, od, .func (PySem.W.fnOf x qual (defArgs st) (defBody st) (defScope st) .none kV doc pm an cdv ct), osl⟩)
    (c : PySem.W.codeIn K cdv qual = true) (k : PySem.W.keepIn K (.ref f) = true) : Fun K x qual st f (PySem.W.fnOf x qual (defArgs st) (defBody st) (defScope st) .none kV doc pm an cdv ct) := ⟨⟨oc, od, kV, doc, pm, an, cdv, ct, osl, rfl, l, c⟩, k⟩
end
theorem hu_of {A : Around} {k : Nat} (hr : Room k A) : A.units + 1 < cLine := Nat.lt_of_le_of_lt (Nat.add_le_add_left (by decide : 1 ≤ 64) _) hr.units
section
variable {X : Cx}
theorem pv (i : Nat) {x : Str} {pos : Pos} (hN : X.N[i]? = some x := by rfl) (hv : Vis X.env.scope x := by first | exact Or.inl rfl | exact Or.inr (Or.inl rfl) | exact Or.inr (Or.inr rfl)) (hd : (x == ("__debug__" : Str)) = false := by decide)
    (hcd : (x == ("__classdict__" : Str)) = false := by decide) : PE X (.Name x pos) (tVar i) := pe_var hN hv hd hcd
end


theorem iteF {A B : Prop} (h : B) : if false = true then A else B := by
  rw [if_neg Bool.false_ne_true]
  exact h
theorem iteT {A B : Prop} (h : A) : if true = true then A else B := by
  rw [if_pos rfl]
  exact h
theorem ite2 {c A B : Prop} [Decidable c] (h1 : c → A) (h2 : ¬ c → B) : if c then A else B := by
  by_cases h : c
  · rw [if_pos h]
    exact h1 h
  · rw [if_neg h]
    exact h2 h
def Same (H H' : Hp) : Prop := ∀ b o, H b = some o → H' b = some o
theorem Same.refl (H : Hp) : Same H H := fun _ _ h => h
theorem Same.trans {H H1 H2 : Hp} (a : Same H H1) (b : Same H1 H2) : Same H H2 := fun c o h => b c o (a c o h)
theorem Same.free {H H' : Hp} (e : Same H H') {l : Addr} (h : H' l = Option.none) : H l = Option.none := by
  cases q : H l with
  | none => rfl
  | some o =>
    rw [e l o q] at h
    cases h
theorem Same.seq {K : PySem.W.Frag} {H H' : Hp} {a : Addr} {xs : List V} (e : Same H H') (h : SqL K H a xs) : SqL K H' a xs := by
  rcases h with (h | ⟨o, h⟩) | h
  · exact .inl (.inl (e _ _ h))
  · exact .inl (.inr ⟨o, e _ _ h⟩)
  · exact .inr h

end L2


set_option linter.all false
set_option maxRecDepth 100000
set_option maxHeartbeats 4000000
namespace L2
open PySem PySem.Spec PyProof.Rows

theorem ObjOk.at_ {P : Program} {w : World} {H : Hp} {h : Heap} {a : Addr} {o : HO} (x : ObjOk P w H h a o) : ∃ u, h.get? a = some u := by
  cases o with
  | lst xs => obtain ⟨_, _, _, _, e⟩ := x; exact ⟨_, e⟩
  | tup xs => obtain ⟨_, _, _, o, e, _⟩ := x; exact ⟨_, e⟩
  | dK kvs => obtain ⟨_, _, _, _, o, _, _, e, _⟩ := x; exact ⟨_, e⟩
  | dT kvs => obtain ⟨_, _, _, _, o, _, _, e, _⟩ := x; exact ⟨_, e⟩
  | set S n => obtain ⟨o, _, _, _, e, _⟩ := x; exact ⟨_, e⟩
  | ins C dx fs => obtain ⟨_, _, _, e, _⟩ := x; exact ⟨_, e⟩
  | own y => obtain ⟨o, e⟩ := x; exact ⟨_, e⟩
  | xd fs => obtain ⟨_, ⟨o, _, _, e, _⟩, _⟩ := x; exact ⟨_, e⟩
  | rng lo hi => obtain ⟨_, _, _, e⟩ := x; exact ⟨_, e⟩
  | frz ob u => obtain ⟨e, _⟩ := x; exact ⟨_, e⟩
  | tbl ps => exact ⟨_, (show h.get? a = some _ from x)⟩
  | met f y => exact ⟨_, (show h.get? a = some _ from x)⟩
  | ext φ => obtain ⟨_, e, _⟩ := x; exact e


structure Fly (P : Program) (w : World) (l : List Env) (H : Hp) (s : Shared) (e : Addr) (cls : Value) (H' : Hp) (s' : Shared) : Prop where
  os : s'.os = s.os
  bare : AllBare s'.gens
  un : Un (frs l) [] H H' s.heap s'.heap
  hok : HOk P w H' s'.heap
  new : H' e = none
  fly : ∃ B a0, Heap.FlyingW B l e cls a0 s'.heap ∧ (∀ b u, H' b = some u → ∃ o, B.get? b = some o) ∧ ∀ b o, s.heap.get? b = some o → b ∉ frs l → ∃ o', B.get? b = some o'
def CXo (P : Program) (w : World) : CXT := fun l H s E ev s' => ∃ e cls H', ev = .ref e ∧ Fly P w l H s e cls H' s' ∧ E cls none H'

theorem fly_un {fs : List Addr} {H H' : Hp} {h h' h'' B : Heap} (un : Un fs [] H H' h h') (sB : B.StaysIn h') (sB' : B.StaysIn h'') (up : h'.UpToSlots h'')
    (fr : ∀ b ∈ fs, ∃ o, h'.get? b = some o ∧ ∀ vs, o.data ≠ .fields vs) (old : ∀ b o, h.get? b = some o → b ∉ fs → ∃ o', B.get? b = some o') : Un fs [] H H' h h'' where
  keep := fun b o q n hb hx => by
    have e1 := un.keep b o q n hb hx
    obtain ⟨o', eB⟩ := old b o q hb
    have e2 := sB b o' eB
    rw [e1] at e2; cases e2
    exact sB' b o eB
  slot := fun b o q n hb hx => by
    obtain ⟨sl, e1⟩ := un.slot b o q n hb hx
    obtain ⟨o', e2, nf⟩ := fr b hb
    rw [e1] at e2; cases e2
    obtain ⟨sl', e3⟩ := up b _ e1 nf
    exact ⟨sl', e3⟩
  free := un.free
  there := fun b o q hx => by
    by_cases hb : b ∈ fs
    · obtain ⟨o', e2, nf⟩ := fr b hb
      obtain ⟨sl', e3⟩ := up b _ e2 nf
      exact ⟨_, e3⟩
    · obtain ⟨o', eB⟩ := old b o q hb
      exact ⟨o', sB' b o' eB⟩
  tups := un.tups
  frzs := un.frzs
  tbls := un.tbls
theorem fly_hok {P : Program} {w : World} {H : Hp} {h h' B : Heap} (ok : HOk P w H h) (sB : B.StaysIn h) (sB' : B.StaysIn h') (tr : ∀ b u, H b = some u → ∃ o, B.get? b = some o) : HOk P w H h' := fun a o ea =>
  (ok a o ea).stay (fun b u hb eb => by
    have tb : ∃ v, H b = some v := hb.elim (fun z => ⟨o, by rw [z]; exact ea⟩) fun z => ⟨_, z⟩
    obtain ⟨v, hv⟩ := tb
    obtain ⟨o', eB⟩ := tr b v hv
    have e2 := sB b o' eB
    rw [eb] at e2; cases e2
    exact sB' b u eB) (fun _ z => z) fun _ _ z => z

theorem un_under {fs fs' : List Addr} {L : Addr} {H H1 H2 : Hp} {h h1 h2 : Heap} (a : Un fs [] H H1 h h1) (b : Un fs' [] H1 H2 h1 h2) (sub : ∀ x ∈ fs', x = L ∨ x ∈ fs) (sup : ∀ x ∈ fs, x ∈ fs') (hL : h.objs.size ≤ L) : Un fs [] H H2 h h2 := by
  have nL : ∀ c o, h.get? c = some o → c ≠ L := fun c o q z => absurd (Heap.lt_size q) (by rw [z]; exact Nat.not_lt.mpr hL)
  have no : ∀ c o, h.get? c = some o → c ∉ fs → c ∉ fs' := fun c o q n z => (sub c z).elim (nL c o q) n
  exact ⟨fun c o q n hc hx => b.keep c o (a.keep c o q n hc hx) (a.free c o q n hx) (no c o q hc) hx,
    fun c o q n hc hx => by
      obtain ⟨sl, e1⟩ := a.slot c o q n hc hx
      obtain ⟨sl', e2⟩ := b.slot c _ e1 (a.free c o q n hx) (sup c hc) hx
      exact ⟨sl', e2⟩,
    fun c o q n hx => by
      obtain ⟨o', e1⟩ := a.there c o q hx
      exact b.free c o' e1 (a.free c o q n hx) hx,
    fun c o q hx => by
      obtain ⟨o', e1⟩ := a.there c o q hx
      exact b.there c o' e1 hx,
    fun c xs q => b.tups c xs (a.tups c xs q), fun c ob xs q => b.frzs c ob xs (a.frzs c ob xs q),
    fun c ps q => by
      obtain ⟨m1, e1⟩ := a.tbls c ps q
      obtain ⟨m2, e2⟩ := b.tbls c _ e1
      exact ⟨m1 ++ m2, by rw [e2, Array.append_assoc]⟩⟩


structure Sink (X : Cx) (E : XK) : Prop where
  made : ∀ (pins : List (Addr × Obj)) (σ : St) (H : Hp) (s : Shared) (e : Addr) (cls : Value) (args : List Value) (h' : Heap), Inv X pins σ H s → Heap.MadeExcOf s.heap h' e cls args → E cls none H → X.xe (.ref e) { s with heap := h' }
  on : Passes (CXo X.prog X.w) X E


theorem made_part {X : Cx} {pins : List (Addr × Obj)} {σ : St} {H : Hp} {s : Shared} (I : Inv X pins σ H s) :
    (PySem.W.hideAll s.heap (frs X.stack)).StaysIn s.heap ∧ s.heap.FunFrames (PySem.W.hideAll s.heap (frs X.stack)) X.stack ∧ (∀ b o, s.heap.get? b = some o → b ∉ frs X.stack → (PySem.W.hideAll s.heap (frs X.stack)).get? b = some o) ∧
      ∀ b u, H b = some u → ∃ o, (PySem.W.hideAll s.heap (frs X.stack)).get? b = some o := by
  refine ⟨fun b o q => PySem.W.of_hideAll _ q, PySem.W.funFrames_hide I.stack fun env he b hb => List.mem_filterMap.mpr ⟨env, he, hb⟩, fun b o q hb => PySem.W.hideAll_get _ q hb, fun b u q => ?_⟩
  obtain ⟨o, ho⟩ := (I.hok b u q).at_
  exact ⟨o, PySem.W.hideAll_get _ ho fun z => by rw [I.stkFree b z] at q; cases q⟩

theorem sink_def {P : Program} {w : World} {K : PySem.W.Frag} {mg : Str → Option Value} {base : Heap} {N : List Str} {qual : Str} {scope : Scope} {f : Addr} {cd : Value} {A : Around} {outer : List Env} {s : Shared} {H : Hp} {E : XK} :
    Sink (cxOf (CXo P w) P w K mg base N qual scope f cd A outer s H E) E where
  made := by
    intro pins σ H1 s1 e cls args h' I hx hE
    obtain ⟨sB, ff, inB, tr⟩ := made_part I
    show wpAny _ _ (leaving _ (.ref e)) _ _ _
    refine wpAny_leaves_madeW (base := PySem.W.hideAll s1.heap (frs (cxOf (CXo P w) P w K mg base N qual scope f cd A outer s H E).stack)) (h := s1.heap) I.ok.frames rfl sB ff hx fun h'' t x1 x2 x3 x4 => ?_
    have sB1 : (PySem.W.hideAll s1.heap (frs (cxOf (CXo P w) P w K mg base N qual scope f cd A outer s H E).stack)).StaysIn h' := fun b o q => hx.keeps b o (sB b o q)
    have un1 : Un (frs outer) [] H H1 s.heap s1.heap := I.base
    have old : ∀ b o, s.heap.get? b = some o → b ∉ frs outer → ∃ o', (PySem.W.hideAll s1.heap (frs (cxOf (CXo P w) P w K mg base N qual scope f cd A outer s H E).stack)).get? b = some o' := fun b o q hb => by
      obtain ⟨o', e1⟩ := un1.there b o q (by simp)
      refine ⟨o', inB b o' e1 fun z => ?_⟩
      rcases List.mem_cons.mp (I.stkSub b z) with z | z
      · exact absurd (Heap.lt_size q) (by rw [z]; exact Nat.lt_irrefl _)
      · exact hb z
    have fr : ∀ b ∈ frs outer, ∃ o, h'.get? b = some o ∧ ∀ vs, o.data ≠ .fields vs := fun b hb => by
      obtain ⟨_, o, ho, nf⟩ := I.funs.mem hb
      exact ⟨o, hx.keeps b o ho, nf⟩
    refine ⟨e, cls, H1, rfl, ⟨I.os, I.bare, fly_un (un1.trans (Un.kept hx.keeps)) sB1 x1.1 x4 fr old, fly_hok (I.hok.kept hx.keeps) sB1 x1.1 tr, ?_, _, _, x1, tr, old⟩, hE⟩
    cases q : H1 e with
    | none => rfl
    | some u =>
      obtain ⟨o, ho⟩ := (I.hok e u q).at_
      rw [hx.new] at ho; cases ho
  on := by
    intro pins σ H1 s1 ev s' I hcx
    obtain ⟨e, cls, H', rfl, F, hE⟩ := hcx
    obtain ⟨B, a0, fl, tr, old⟩ := F.fly
    show wpAny _ _ (leaving _ (.ref e)) _ _ _
    refine wpAny_leaves_onW I.ok.frames rfl fl fun h'' x1 x4 => ?_
    have un1 : Un (frs outer) [] H H1 s.heap s1.heap := I.base
    have sub : ∀ x ∈ frs (cxOf (CXo P w) P w K mg base N qual scope f cd A outer s H E).stack, x = s.heap.objs.size ∨ x ∈ frs outer := fun x hx => List.mem_cons.mp (I.stkSub x hx)
    have sup : ∀ x ∈ frs outer, x ∈ frs (cxOf (CXo P w) P w K mg base N qual scope f cd A outer s H E).stack := fun x hx => List.mem_cons_of_mem _ hx
    have un2 : Un (frs outer) [] H H' s.heap s'.heap := un_under un1 F.un sub sup (Nat.le_refl _)
    have old' : ∀ b o, s.heap.get? b = some o → b ∉ frs outer → ∃ o', B.get? b = some o' := fun b o q hb => by
      obtain ⟨o', e1⟩ := un1.there b o q (by simp)
      refine old b o' e1 fun z => ?_
      rcases sub b z with z | z
      · exact absurd (Heap.lt_size q) (by rw [z]; exact Nat.lt_irrefl _)
      · exact hb z
    have fr : ∀ b ∈ frs outer, ∃ o, s'.heap.get? b = some o ∧ ∀ vs, o.data ≠ .fields vs := fun b hb => by
      obtain ⟨_, o, ho, nf⟩ := fl.2.2.1.mem (sup b hb)
      exact ⟨o, ho, nf⟩
    exact ⟨e, cls, H', rfl, ⟨F.os.trans I.os, F.bare, fly_un un2 fl.1 x1.1 x4 fr old', fly_hok F.hok fl.1 x1.1 tr, F.new, B, a0, x1, tr, old'⟩, hE⟩


abbrev bmV : List Value := [.type "ValueError", .type "Exception", .type "BaseException", .type "object"]
abbrev newV : String := "ValueError.__new__"

def Exc (K : PySem.W.Frag) (C : Addr) : Prop := PySem.W.excIn K C bmV newV = true
theorem exc_obj {K : PySem.W.Frag} {h : Heap} {C : Addr} {bmB : List Value} {newId : String} (X : K.In h) (q : PySem.W.excIn K C bmB newId = true) :
    ∃ bm N nm qn bs hdct sn sub ab col dd k0 k1 k2 k3 k5 mN, h.get? C = some (excClassObj nm qn C N bs bm hdct sn sub ab col dd k0 k1 k2 k3 k5 newId) ∧ h.Ns N mN ∧ mN "__init__" = none ∧ OwnTail h bmB bm := by
  unfold PySem.W.excIn at q
  split at q
  · rename_i dd cd sl ho
    split at q
    · rename_i C' bm k0 k1 k2 k3 n k5 hm hs
      simp only [Bool.and_eq_true, beq_iff_eq, Bool.not_eq_true'] at q
      obtain ⟨⟨⟨⟨⟨rfl, rfl⟩, hdel⟩, ht⟩, hok⟩, hni⟩ := q
      obtain ⟨nm, bs, mro, ns, qn, hd, sn, sub, ab, col, del⟩ := cd
      dsimp only at hm hdel hok hni
      subst hm hdel
      have hsl : sl = #[k0, k1, k2, k3, some (.builtin n), k5] := by
        obtain ⟨l⟩ := sl
        simp only at hs
        rw [hs]
      subst hsl
      exact ⟨bm, ns, nm, qn, bs, hd, sn, sub, ab, col, dd, k0, k1, k2, k3, k5, _, X _ _ ho, .of_isNs (PySem.W.isNs_of_in X hok), PySem.W.nsMap_none_of_in X hok hni, PySem.W.tail_of_in X ht⟩
    · cases q
  · cases q
section
variable {X : Cx} {E : XK} {x : Str} {C : Addr} {e : Expr} {t : TA} {np cpos pos : Pos}
def tRaise (C : Addr) (E : XK) (t : TA) : TS := fun _ σ H => t σ H fun vs H1 => vs.length ≤ sizeLine ∧ E (.ref C) none H1
theorem ps_raise (S : Sink X E) (hq : Exc X.K C) (hc : X.calm = true) (hg : Gl X x) (hm : X.mg x = some (.ref C)) (ha : PA X [e] t) (hd : (x == ("__debug__" : Str)) = false := by decide)
    (he : starEach [e] X.env = (false, eval e X.env) :: starEach [] X.env := by rfl) (hplain : (backTo cpos (starEach [] X.env)).any (·.1) = false := by rfl) :
    PS X (.Raise (some (.Call (.Name x np) [e] [] cpos)) none pos) (tRaise C E t) := by
  intro pins s σ H D I h
  obtain ⟨tl, N, nm, q, bs, hdct, sn, sub, ab, col, dd, k0, k1, k2, k3, k5, mN, hC, hN, hni, T⟩ := exc_obj I.mod.kin hq
  refine wpAny_Raise_call_subT (C := C) (nm := nm) (q := q) (N := N) (bs := bs) (bm := tl) (hdct := hdct) (sn := sn) (sub := sub) (ab := ab) (col := col) (dd := dd) (k0 := k0) (k1 := k1) (k2 := k2) (k3 := k3) (k5 := k5)
    PySem.F.excBase_ValueError (mN := mN) (T.hasType PySem.F.excBase_ValueError.hasBase) (I.ok.hd hc) (by rw [he]; show (false || (backTo cpos (starEach [] X.env)).any (·.1)) = false; rw [hplain]; rfl) hni (ld_glob I hg hm ⟨rfl, ?_⟩ hd)
  have hA := ha cpos pins s σ H _ I h
  rw [he] at hA ⊢
  refine Calls.evalArgs_plain (thn hA fun us s2 ⟨vs, H2, I2, r, hz, hE⟩ => ⟨rfl, by rw [← r.length]; exact hz, I2.bk _ _ hC, hN.keeps I2.bk, T.keeps I2.bk, fun h' e hm' => ?_⟩)
  exact S.made pins σ H2 s2 e _ _ h' I2 hm' hE
end
end L2


set_option linter.all false
set_option maxRecDepth 100000
set_option maxHeartbeats 4000000
namespace L2
open PySem PySem.Spec PyProof.Rows


def XP (X : Cx) (pins : List (Addr × Obj)) (σ : St) (E : XK) (ev : Value) (s' : Shared) : Prop := ∃ (e : Addr) (cls : Value) (H' : Hp) (B : Heap) (a0 : Value), ev = .ref e ∧ Inv X pins σ H' s' ∧ Heap.FlyingW B X.stack e cls a0 s'.heap ∧ H' e = none ∧
  (∀ b u, H' b = some u → ∃ o, B.get? b = some o) ∧ (∀ b o, X.s₀.heap.get? b = some o → b ∉ frs X.stack → b ∉ X.ex → ∃ o', B.get? b = some o') ∧ (∀ p ∈ X.pn ++ pins, ∃ o', B.get? p.1 = some o') ∧ E cls none H'
section
variable {X : Cx} {pins : List (Addr × Obj)} {σ : St} {H : Hp} {s s' : Shared} {E : XK}
theorem Inv.notStk (I : Inv X pins σ H s) {b : Addr} (h1 : b ≠ X.env.locals) (h2 : b ∉ X.fs) : b ∉ frs X.stack := fun hb => (List.mem_cons.mp (I.stkSub b hb)).elim h1 h2
theorem xp_of {ev : Value} (I : Inv X pins σ H s) (hcx : CXo X.prog X.w X.stack H s E ev s') : XP X pins σ E ev s' := by
  obtain ⟨e, cls, H', rfl, F, hE⟩ := hcx
  obtain ⟨B, a0, fl, tr, old⟩ := F.fly
  refine ⟨e, cls, H', B, a0, rfl, I.call' (ch := []) F.os F.un F.hok F.bare (fun b z => absurd z (by simp)), fl, F.new, tr, fun b o q hb hx => ?_, fun p hp => ?_, hE⟩
  · obtain ⟨o', e1⟩ := I.base.there b o q hx
    exact old b o' e1 hb
  · obtain ⟨p1, _, p3, p4, _⟩ := I.pin p hp
    exact old _ _ p1 (I.notStk p3 p4)

theorem Inv.moved {B h' : Heap} (I : Inv X pins σ H s) (hex : X.ex = []) (sB : B.StaysIn s.heap) (sB' : B.StaysIn h') (up : s.heap.UpToSlots h') (tr : ∀ b u, H b = some u → ∃ o, B.get? b = some o)
    (old : ∀ b o, X.s₀.heap.get? b = some o → b ∉ frs X.stack → b ∉ X.ex → ∃ o', B.get? b = some o') (pn : ∀ p ∈ X.pn ++ pins, ∃ o', B.get? p.1 = some o') : Inv X pins σ H { s with heap := h' } := by
  have cells : ∀ c v, s.heap.IsCell c v → h'.IsCell c v := fun c v ⟨o, ho, hd⟩ => by
    obtain ⟨sl, e1⟩ := up c o ho fun vs z => by rw [hd] at z; cases z
    exact ⟨_, e1, hd⟩
  obtain ⟨m, hn, hl⟩ := I.loc
  refine ⟨I.ok, I.os, I.bare, ?_, ⟨m, up.ns hn, fun i x v h1 h2 h3 => ?_⟩, fun x c h1 => ?_, I.free, I.freeC, fun p hp => ?_, fly_hok I.hok sB sB' tr, I.len⟩
  · have hb := I.base
    rw [hex] at hb ⊢
    refine fly_un hb sB sB' up (fun b hb => ?_) fun b o q hb => old b o q (I.notStk (fun z => ?_) hb) (by rw [hex]; simp)
    · obtain ⟨_, o, ho, nf⟩ := I.funs.mem hb
      exact ⟨o, ho, nf⟩
    · exact absurd (Heap.lt_size q) (by rw [z]; exact Nat.not_lt.mpr I.ok.above)
  · obtain ⟨u, ru, lk⟩ := hl i x v h1 h2 h3
    exact ⟨u, ru, lk.elim .inl fun ⟨k, c, hc, hcell⟩ => .inr ⟨k, c, hc, cells c _ hcell⟩⟩
  · obtain ⟨v, hv⟩ := I.cell x c h1
    exact ⟨v, cells c v hv⟩
  · obtain ⟨p1, p2⟩ := I.pin p hp
    obtain ⟨o', eB⟩ := pn p hp
    have e2 := sB _ _ eB
    rw [p1] at e2; cases e2
    exact ⟨sB' _ _ eB, p2⟩

def xO (e : Addr) (cls : Value) : HO := .ext fun h => ∃ oe, h.get? e = some oe ∧ oe.cls = cls
theorem Inv.track {e : Addr} {cls : Value} {oe : Obj} {vs : Array Value} (I : Inv X pins σ H s) (hex : X.ex = []) (new : H e = none) (he : s.heap.get? e = some oe) (hc : oe.cls = cls) (hd : oe.data = .fields vs) (hs : ∀ o, X.s₀.heap.get? e ≠ some o) (hp : ∀ p ∈ X.pn ++ pins, p.1 ≠ e) :
    Inv X pins σ (upd H e (xO e cls)) s := by
  have hL : X.env.locals ≠ e := fun z => by
    obtain ⟨m, ⟨o, es, ep, ho, hd', _⟩, _⟩ := I.loc
    rw [z, he] at ho; cases ho; rw [hd] at hd'; cases hd'
  have hC : ∀ x c, X.env.cells.lookup x = some c → c ≠ e := fun x c h1 z => by
    obtain ⟨v, o, ho, hd'⟩ := I.cell x c h1
    rw [z, he] at ho; cases ho; rw [hd] at hd'; cases hd'
  refine ⟨I.ok, I.os, I.bare, ?_, I.loc, I.cell, by rw [upd_ne hL]; exact I.free, fun x c h1 => by rw [upd_ne (hC x c h1)]; exact I.freeC x c h1, fun p hp' => ?_, fun a o ea => ?_, I.len⟩
  · exact ⟨I.base.keep, I.base.slot, fun b o q n hx => by rw [upd_ne (fun z => hs o (by rw [← z]; exact q))]; exact I.base.free b o q n hx, I.base.there,
      fun b xs q => by have z := I.base.tups b xs q; rw [upd_ne (ne_of_none z new)]; exact z, fun b ob u q => by have z := I.base.frzs b ob u q; rw [upd_ne (ne_of_none z new)]; exact z,
      fun b ps q => by obtain ⟨mo, z⟩ := I.base.tbls b ps q; exact ⟨mo, by rw [upd_ne (ne_of_none z new)]; exact z⟩⟩
  · obtain ⟨p1, p2, p3⟩ := I.pin p hp'
    exact ⟨p1, by rw [upd_ne (hp p hp')]; exact p2, p3⟩
  · by_cases ha : a = e
    · subst ha
      rw [upd_same] at ea
      cases ea
      exact ⟨⟨oe, he, hc⟩, ⟨oe, he⟩, fun h1 h2 ⟨o, q1, q2⟩ k => ⟨o, k o q1, q2⟩⟩
    · rw [upd_ne ha] at ea
      exact (I.hok a o ea).stay (fun _ _ _ q => q) (fun b q => by rw [upd_ne (ne_of_none q new)]; exact q) fun b xs q => by rw [upd_ne (ne_of_none q new)]; exact q

theorem Inv.gone {i : Nat} {n : Str} {h' : Heap} {t' : Nat} {m : Str → Option Value} {v : Option Value} (I : Inv X pins σ H s) (hN : X.N.Nodup) (hi : X.N[i]? = some n) (hn : s.heap.Ns X.env.locals m)
    (hl : ∀ (i : Nat) (x : Str) (v : V), X.N[i]? = some x → σ[i]? = some (some v) → Vis X.env.scope x → ∃ u, RelV v u ∧ Look X.env s.heap m x u)
    (hn' : h'.Ns X.env.locals (fun x => if x = n then v else m x)) (sb : Heap.SameBut X.env.locals s.heap h') : Inv X pins (σ.set i none) H { s with heap := h', toks := t' } := by
  have get' : ∀ b o, b ≠ X.env.locals → s.heap.get? b = some o → h'.get? b = some o := fun b o hb q => (sb.2 b hb).trans q
  have old : ∀ b o, X.s₀.heap.get? b = some o → b ≠ X.env.locals := fun b o q z => absurd (Heap.lt_size q) (by rw [z]; exact Nat.not_lt.mpr I.ok.above)
  refine ⟨I.ok, I.os, I.bare, ?_, ⟨_, hn', fun j x w h1 h2 h3 => ?_⟩, fun x c h1 => ?_, I.free, I.freeC, fun p hp => ?_, fun a o ea => ?_, by rw [List.length_set]; exact I.len⟩
  · refine ⟨fun b o q n1 n2 n3 => get' b o (old b o q) (I.base.keep b o q n1 n2 n3), fun b o q n1 n2 n3 => ?_, I.base.free, fun b o q n1 => ?_, I.base.tups, I.base.frzs, I.base.tbls⟩
    · obtain ⟨sl, z⟩ := I.base.slot b o q n1 n2 n3
      exact ⟨sl, get' b _ (old b o q) z⟩
    · obtain ⟨o', z⟩ := I.base.there b o q n1
      exact ⟨o', get' b _ (old b o q) z⟩
  · have hji : j ≠ i := fun z => by
      subst z
      rw [List.getElem?_set] at h2
      rw [if_pos rfl] at h2
      split at h2 <;> cases h2
    rw [List.getElem?_set_ne (Ne.symm hji)] at h2
    obtain ⟨u, ru, lk⟩ := hl j x w h1 h2 h3
    refine ⟨u, ru, lk.elim (fun ⟨k, hm⟩ => .inl ⟨k, ?_⟩) fun ⟨k, c, hc, o, ho, hd⟩ => .inr ⟨k, c, hc, o, get' c o (I.cne x c hc) ho, hd⟩⟩
    have hx : x ≠ n := fun z => hji (nodup_ix hN h1 (by rw [z]; exact hi))
    show (if x = n then v else m x) = some u
    rw [if_neg hx]
    exact hm
  · obtain ⟨w, o, ho, hd⟩ := I.cell x c h1
    exact ⟨w, o, get' c o (I.cne x c h1) ho, hd⟩
  · obtain ⟨p1, p2, p3, p4⟩ := I.pin p hp
    exact ⟨get' _ _ p3 p1, p2, p3, p4⟩
  · refine (I.hok a o ea).stay (fun b u hb q => get' b u (fun z => ?_) q) (fun _ z => z) fun _ _ z => z
    rcases hb with rfl | hb
    · rw [z, I.free] at ea; cases ea
    · rw [z, I.free] at hb; cases hb
end


def PEX (X : Cx) (e : Expr) (t : St → Hp → VK → XK → Prop) : Prop :=
  ∀ (pins : List (Addr × Obj)) (s : Shared) (σ : St) (H : Hp) (Q : VK) (E : XK), Inv X pins σ H s → t σ H Q E → wpAny (model X.prog X.w) X.A (eval e X.env) (EP X pins σ Q) (XP X pins σ E) s
def PSX (X : Cx) (st : Stmt) (t : Ends → (St → XK) → St → Hp → Prop) : Prop :=
  ∀ (pins : List (Addr × Obj)) (s : Shared) (σ : St) (H : Hp) (D : Ends) (E : St → XK), Inv X pins σ H s → t D E σ H → wpAny (model X.prog X.w) X.A (exec st X.env) (SP X pins D) (fun ev s' => ∃ σ', XP X pins σ' (E σ') ev s') s
def PSXs (X : Cx) (sts : List Stmt) (t : Ends → (St → XK) → St → Hp → Prop) : Prop :=
  ∀ (pins : List (Addr × Obj)) (s : Shared) (σ : St) (H : Hp) (D : Ends) (E : St → XK), Inv X pins σ H s → t D E σ H → wpAny (model X.prog X.w) X.A (execs sts X.env) (SP X pins D) (fun ev s' => ∃ σ', XP X pins σ' (E σ') ev s') s
section
variable {X : Cx} {k : Nat} {f : Addr} {fd : FuncData} {ps : List Str} {sp : Sp} {dvs : List V} {ds : List Value} {x : Str} {p pos : Pos} {e : Expr} {es : List Expr} {t : TA}
def tCallX (sp : Sp) (dvs : List V) (t : TA) : St → Hp → VK → XK → Prop := fun σ H Q E => t σ H fun vs H1 => sp (vs ++ dvs) H1 Q E
theorem pex_call (F : FnOk X.prog X.w X.K X.mg X.base (CXo X.prog X.w) k f fd ps sp) (hr : Room k X.A) (hg : Gl X x) (hm : X.mg x = some (.ref f)) (hk : PySem.W.keepIn X.K (.ref f) = true) (hb : Binds X.K fd ps ds) (hd : Vals dvs ds)
    (ha : PA X.nox (e :: es) t) (hdb : (x == ("__debug__" : Str)) = false := by decide) (he : starEach (e :: es) X.env = (false, eval e X.env) :: starEach es X.env := by rfl) (hpl : (backTo pos (starEach es X.env)).any (·.1) = false := by rfl) :
    PEX X (.Call (.Name x p) (e :: es) [] pos) (tCallX sp dvs t) := by
  intro pins s σ H Q E I h
  refine wpAny_Call_Name_kw (ld_glob I hg hm ?_ hdb)
  refine PySem.W.callWith_K (h₀ := X.base) I.ok.mod.kin hk (wpAny_mono (ha pos pins s σ H _ (I.wish _) h) (fun us s1 ⟨vs, H1, I1, r, q⟩ => ⟨I1.unwish.kIn, ?_⟩) fun _ _ z => z.elim) he hpl
  have I1' : Inv X pins σ H1 s1 := I1.unwish
  have r2 : Vals (vs ++ dvs) (us ++ ds) := r.append hd
  have hl : (us ++ ds).length = ps.length := by rw [← r2.length]; exact F.len _ _ _ _ q
  refine wpAny_call (codeAny_mono (F.run X.A X.stack s1 H1 ⟨us, []⟩ (us ++ ds) (vs ++ dvs) Q E hr I1'.env0 (hb s1 us I1'.kIn hl) r2 q) fun r s' hq => ?_)
  cases r with
  | error ev => exact xp_of I1' hq
  | ok fl =>
    cases fl with
    | ret u => exact I1'.after hq
    | next => exact False.elim hq
    | brk => exact False.elim hq
    | cont => exact False.elim hq
variable {te : St → Hp → VK → XK → Prop}
def tSetX (i : Nat) (te : St → Hp → VK → XK → Prop) : Ends → (St → XK) → St → Hp → Prop := fun D E σ H => te σ H (fun v H1 => D.nx (σ.set i (some v)) H1) (E σ)
theorem psx_set {i : Nat} {pos' : Pos} (hN : X.N.Nodup) (hi : X.N[i]? = some x) (hx : Loc X.env.scope x) (he : PEX X e te) (hs : swapsWith e (some (.Name x pos')) pos.line X.env = pure false := by rfl)
    (hf : X.fn x = true ∨ X.env.scope.names.lookup x = some .local := by first | exact .inl rfl | exact .inr rfl | assumption) : PSX X (.Assign [.Name x pos'] e pos) (tSetX i te) := by
  intro pins s σ H D E I h
  refine wpAny_Assign_Name (wpAny_mono (he pins s σ H _ _ I h) (fun v s1 ⟨y, H1, I1, r1, q1⟩ => ?_) fun ev s1 q => ⟨σ, q⟩) hs
  exact store_ok I1 hN hi hx r1 (fun s2 I2 => ⟨_, H1, I2, q1⟩) hf
def tExprX (te : St → Hp → VK → XK → Prop) : Ends → (St → XK) → St → Hp → Prop := fun D E σ H => te σ H (fun _ H1 => D.nx σ H1) (E σ)
theorem psx_expr (he : PEX X e te) (hs : swapsWith e none pos.line X.env = pure false := by rfl) : PSX X (.Expr e pos) (tExprX te) := by
  intro pins s σ H D E I h
  exact wpAny_Expr_any (wpAny_mono (he pins s σ H _ _ I h) (fun v s1 ⟨x, H1, I1, r1, q1⟩ => ⟨σ, H1, I1, q1⟩) fun ev s1 q => ⟨σ, q⟩) I.quiet hs
theorem psxs_one {st : Stmt} {t : Ends → (St → XK) → St → Hp → Prop} (h : PSX X st t) : PSXs X [st] t := by
  intro pins s σ H D E I hw
  refine wpAny_execs_cons (thn (h pins s σ H D E I hw) fun f s1 q => ?_)
  cases f with
  | next => exact wpAny_execs_nil q
  | ret v => exact q
  | brk => exact q
  | cont => exact q
end


abbrev Cx.caught (X : Cx) (e : Addr) : Cx := { X with A := X.A.mark (some (.ref e)), calm := false, xe := fun _ _ => False }
section
variable {X : Cx} {pins : List (Addr × Obj)} {σ : St} {H : Hp} {s : Shared}
theorem Inv.caught (I : Inv X pins σ H s) (e : Addr) : Inv (X.caught e) pins σ H s :=
  ⟨⟨I.ok.mod, I.ok.kind, I.ok.glob, I.ok.blt, I.ok.above, I.ok.inj, I.ok.has, I.ok.cab, fun z => absurd (show false = true from z) Bool.false_ne_true, I.ok.frames, I.ok.stk, I.ok.exf, I.ok.bs, I.ok.bsz, I.ok.noex, I.ok.exfs, I.ok.funs, I.ok.frf⟩, I.os, I.bare, I.base, I.loc, I.cell, I.free, I.freeC, I.pin, I.hok, I.len⟩
theorem Inv.uncaught {e : Addr} (ok : X.Ok) (I : Inv (X.caught e) pins σ H s) : Inv X pins σ H s := ⟨ok, I.os, I.bare, I.base, I.loc, I.cell, I.free, I.freeC, I.pin, I.hok, I.len⟩
end

def tTry (K : PySem.W.Frag) (C : Addr) (i : Nat) (tb : Ends → (St → XK) → St → Hp → Prop) (ts : TS) : TS := fun D σ H => tb D (fun σ' cls _ H' => PySem.W.exmOne K cls (.ref C) = some true ∧ ∀ e, H' e = none →
  ts { nx := fun σ2 H2 => D.nx (σ2.set i none) H2, rt := D.rt, bk := fun σ2 H2 => D.bk (σ2.set i none) H2, ct := fun σ2 H2 => D.ct (σ2.set i none) H2 } (σ'.set i (some (.ref e))) (upd H' e (xO e cls))) σ H
theorem ps_try {X : Cx} {body suite : List Stmt} {b₀ : Stmt} {y n : Str} {C : Addr} {i : Nat} {np hpos pos : Pos} {tb : Ends → (St → XK) → St → Hp → Prop} {ts : TS} (hex : X.ex = []) (hst : X.stack = X.env :: X.outer) (hfr : X.env.frame = some X.env.locals)
    (hb : PSXs X body tb) (hN : X.N.Nodup) (hi : X.N[i]? = some n) (hn : X.env.scope.names.lookup n = some .local) (hg : Gl X y) (hm : X.mg y = some (.ref C)) (hs : ∀ e, PSs (X.caught e) (b₀ :: suite) ts)
    (hd : (y == ("__debug__" : Str)) = false := by decide) :
    PS X (.Try body [.ExceptHandler (some (.Name y np)) (some n) (b₀ :: suite) hpos] [] [] pos) (tTry X.K C i tb ts) := by
  intro pins s σ H D I h
  refine wpAny_Try_except (wpAny_mono (hb pins s σ H _ _ I h) (fun f s1 q => ?_) fun ev s1 q => ?_)
  · cases f with
    | next => exact wpAny_execs_nil q
    | ret v => exact q
    | brk => exact q
    | cont => exact q
  · obtain ⟨σ', e, cls, H', B, a0, rfl, I1, fl, new, tr, old, pn, hm1, hts⟩ := q
    have fl1 := fl
    rw [hst] at fl1
    refine wpAny_looks_onW (I1.ok.frames.trans (by rw [hst])) hfr fl1 fun h4 held4 up4 => ?_
    refine wpAny_landsW held4 fun h5 fl5 up5 => ?_
    have I5 : Inv X pins σ' H' { s1 with heap := h5 } := I1.moved hex fl.1 fl5.1 (up4.trans up5) tr old pn
    obtain ⟨oe, vs, he, hc, hdt, _⟩ := fl5.first
    refine wpAny_handleBy_cons (codeAny_handlers_test ?_) (by intro q; cases q)
    refine ld_glob (I5.caught e) hg hm ?_ hd
    have LT : PySem.W.Looks (model X.prog X.w) h5 (typeOf (.ref e)) cls := hc ▸ (PySem.W.Looks.ld he).andThen .now
    refine (PySem.W.exm_one (M := model X.prog X.w) I5.kIn LT hm1) _ _ _ _ (fun _ _ q => q) ?_
    rw [if_pos rfl]
    show codeAny _ _ _ _ _
    refine codeAny_handlers_suite_as ?_
    refine lands_againW fl5 fun h6 fl6 up6 => ?_
    have I6 : Inv X pins σ' H' { s1 with heap := h6 } := I5.moved hex fl5.1 fl6.1 up6 tr old pn
    obtain ⟨oe6, vs6, he6, hc6, hd6, _⟩ := fl6.first
    have nB : B.get? e = none := fl.2.1
    have nfr : ∀ b ∈ frs X.stack, b ≠ e := fun b hb z => by
      rw [hst] at hb
      obtain ⟨_, o, ho, nf⟩ := fl6.2.2.1.mem hb
      rw [z, he6] at ho; cases ho
      exact nf _ hd6
    have I7 : Inv X pins σ' (upd H' e (xO e cls)) { s1 with heap := h6 } := I6.track hex new he6 hc6 hd6 (fun o q => by
      obtain ⟨o', z⟩ := old e o q (fun hb => nfr e hb rfl) (by rw [hex]; simp)
      rw [nB] at z; cases z) fun p hp z => by
        obtain ⟨o', q⟩ := pn p hp
        rw [z, nB] at q; cases q
    refine store_ok I7 hN hi (.inl hn) (v := .ref e) rfl (fun s8 I8 => ?_) (.inr hn)
    refine wpAny_mono (hs e pins s8 _ _ _ (I8.caught e) (hts e new)) (fun f s9 q => ?_) fun _ _ z => z.elim
    have kn : X.env.kindOf n = some .local := hn
    have kf : (X.env.scope.kind == .class || (X.env.scope.kind == .module && X.env.locals != X.env.globals)) = false := by rw [I.ok.kind]; rfl
    have go : ∀ {σ2 : St} {H2 : Hp} {R : Unit → Shared → Prop}, Inv (X.caught e) pins σ2 H2 s9 → (∀ s10, Inv X pins (σ2.set i none) H2 s10 → R () s10) → wpAny (model X.prog X.w) X.A (do bindName X.env n .none; unbindBehindTheSuite X.env n hpos) R X.xe s9 := fun {σ2 H2 R} I9 k => by
      have I9' : Inv X pins σ2 H2 s9 := I9.uncaught I.ok
      obtain ⟨m, hnm, hl⟩ := I9'.loc
      exact wpAny_nameGoes_keeps kn hnm kf fun h' v hn' sb => k _ (I9'.gone hN hi hnm hl hn' sb)
    cases f with
    | next => obtain ⟨σ2, H2, I9, q⟩ := q; exact go I9 fun s10 I10 => ⟨_, H2, I10, q⟩
    | brk => obtain ⟨σ2, H2, I9, q⟩ := q; exact go I9 fun s10 I10 => ⟨_, H2, I10, q⟩
    | cont => obtain ⟨σ2, H2, I9, q⟩ := q; exact go I9 fun s10 I10 => ⟨_, H2, I10, q⟩
    | ret u => obtain ⟨v, σ2, H2, I9, r, q⟩ := q; exact go I9 fun s10 I10 => ⟨v, _, H2, I10, r, q⟩
end L2


set_option linter.all false
set_option maxRecDepth 100000
set_option maxHeartbeats 4000000
namespace L2
open PySem PySem.Spec PyProof.Rows


def Its (x : Str) : It := ⟨fun i _ => i < x.cps.size, fun i H v H' => H' = H ∧ ∃ c, x.cps[i]? = some c ∧ v = .str ⟨#[c]⟩, fun i _ => i = x.cps.size⟩
abbrev keepsTuple : List String := ["enumerate", "zip", "dict_itemiterator", "dict_reverseitemiterator", "odict_iterator", "itertools.zip_longest", "itertools.pairwise"]
theorem turn_str {P : Program} {w : World} {K : PySem.W.Frag} {tg : Expr} {ty : String} {x : Str} {t : Tok} (it : Addr)
    (W : ∀ A : Around, A.handled = none → Walks P w A it [it] [it] x.cps.size (SignAt x) (fun i h => h.IsStrIter it ty x t i))
    (hn : keepsTuple.contains ty = false)
    (hself : ∀ (A : Around) (i : Nat) (s : Shared) (Q : Value → Shared → Prop) (E : Value → Shared → Prop), s.heap.IsStrIter it ty x t i → Q (.ref it) s → wpAny (model P w) A (pyIter (.ref it)) Q E s) :
    Turn P w K tg (Its x) [it] it (fun i h => h.IsStrIter it ty x t i) where
  mem := by simp
  obj := fun i h st b hb => by
    have eb : b = it := by simpa using hb
    subst eb
    obtain ⟨o, eo, _, d⟩ := st
    exact ⟨o, eo, fun v z => by rw [d] at z; cases z⟩
  keep := fun i h h' st k => by
    obtain ⟨o, eo, r⟩ := st
    exact ⟨o, k it (by simp) o eo, r⟩
  item := by
    intro X hP hw hK hc i pins s σ H E I hf st hg
    subst hP hw hK
    obtain ⟨f0, f1, f2, f3, f4, f5⟩ := hf it (by simp)
    refine (W X.A (I.ok.hd hc)).item i s _ _ hg st fun v h' tk hv st' kk => ?_
    obtain ⟨c, u, hcx, rfl⟩ := hv
    have I1 : Inv X pins σ H { s with heap := h', toks := tk } := I.turned (fun b o hb eo => kk b o (by simpa using hb) eo) f0 f1 f3 f4 f5
    obtain ⟨o, eo, c', d⟩ := id st'
    exact ⟨_, rfl, go_of (s := { s with heap := h', toks := tk }) eo c' d hn ⟨.str ⟨#[c]⟩, H, I1, ⟨u, rfl⟩, ⟨rfl, c, hcx, rfl⟩, st', fun b hb => (hf b hb).1⟩⟩
  done := by
    intro X hP hw hK hc i pins s σ H E I hf st hg
    subst hP hw hK
    obtain ⟨f0, f1, f2, f3, f4, f5⟩ := hf it (by simp)
    have ei : i = x.cps.size := hg
    subst ei
    exact (W X.A (I.ok.hd hc)).done s _ _ st fun h' tk kk => ⟨rfl, I.turned (fun b o hb eo => kk b o (by simpa using hb) eo) f0 f1 f3 f4 f5⟩
  self := fun A i s Q E st h => hself A i s Q E st h

section
variable {X : Cx} {tg : Expr}
def iStr (tl : TE) : TI := fun σ H R => tl σ H fun v H1 => ∃ x, v = .str x ∧ R (Its x) H1
theorem pi_str {l : Expr} {tl : TE} (hl : PE X l tl) : PI X tg l (iStr tl) := by
  intro pins s σ H R I h
  refine thn (hl pins s σ H _ I h) fun v s1 ⟨y, H1, I1, r1, q1⟩ => ?_
  obtain ⟨x, rfl, q⟩ := q1
  obtain ⟨t, rfl⟩ := r1
  have fp : ∀ b ∈ [s1.heap.objs.size], FpOk X pins H1 b := fun b hb => by
    have eb : b = s1.heap.objs.size := by simpa using hb
    subst eb
    exact I1.fpOk (Nat.le_refl _) (I1.hok.fresh (Nat.le_refl _))
  cases ha : x.cps.all (· < 128)
  · refine wpAny_pyIter_wide ha ?_
    exact ⟨s1.heap.objs.size, [s1.heap.objs.size], _, _, H1, rfl, I1.kept (t' := s1.toks) fun b o eo => Heap.get?_push_of_some _ eo,
      turn_str (ty := "str_iterator") (t := t) _ (fun A hA => Walks.strWide hA _ x t) (by decide) (fun _ _ _ _ _ st hq => wpAny_pyIter_striter_wide st hq), ⟨_, Heap.get?_push_size _ rfl, rfl, rfl⟩, fp, q⟩
  · refine wpAny_pyIter_ascii ha ?_
    exact ⟨s1.heap.objs.size, [s1.heap.objs.size], _, _, H1, rfl, I1.kept (t' := s1.toks) fun b o eo => Heap.get?_push_of_some _ eo,
      turn_str (ty := "str_ascii_iterator") (t := t) _ (fun A hA => Walks.strAscii hA _ x t) (by decide) (fun _ _ _ _ _ st hq => wpAny_pyIter_striter_ascii st hq), ⟨_, Heap.get?_push_size _ rfl, rfl, rfl⟩, fp, q⟩
end
abbrev cxComp (X : Cx) (N : List Str) (scope : Scope) (cl : List (Str × Addr)) (C : Addr) (s₀ : Shared) (H₀ : Hp) (ex : List Addr) (pn : List (Addr × Obj)) : Cx :=
  { X with N := N, s₀ := s₀, H₀ := H₀, env := compEnvC scope cl C X.env, outer := X.stack, stack := X.stack, ex := ex, fn := fun _ => false, pn := pn, xe := fun _ _ => False }

def PTs (X : Cx) (ifs : List Expr) (t : TT) : Prop :=
  ∀ (pins : List (Addr × Obj)) (s : Shared) (σ : St) (H : Hp) (Q : Bool → Hp → Prop), Inv X pins σ H s → t σ H Q →
    wpAny (model X.prog X.w) X.A (forIn ifs true fun c r => if r = true then do let ok ← isTrue c X.env (eval c X.env); pure (ForInStep.yield ok) else pure (ForInStep.yield r)) (TP X pins σ Q) X.xe s
def tYes : TT := fun _ H Q => Q true H
theorem pts_nil {X : Cx} : PTs X [] tYes := fun _ _ _ H _ I h => wpAny_tests_nil ⟨H, I, h⟩
theorem pts_one {X : Cx} {c : Expr} {t : TT} (h : PT X c t) : PTs X [c] t := fun pins s σ H Q I hw => wpAny_tests_one (h pins s σ H Q I hw)

def pick (ρ : List (Option Nat)) (σ : St) : St := ρ.map fun o => o.bind fun j => (σ[j]?).bind id

def CompOk (J : It) (g : TG) (tc : TT) (te : TE) (Q : VK) (l : Addr) (τ : St) (H1 : Hp) : Prop :=
  ∃ W : Nat → Nat → List V → St → Hp → Prop, (∃ m, W 0 m [] τ (upd H1 l (.lst []))) ∧ ∀ i m ys τ H2, W i m ys τ H2 →
    (J.stop i H2 ∧ Q (.ref l) H2) ∨ (J.go i H2 ∧ ∀ x H3, J.yld i H2 x H3 → g x τ H3 fun τ4 H4 => tc τ4 H4 fun b H5 =>
      if b = true then te τ4 H5 fun y H6 => H6 l = some (.lst ys) ∧ ys.length < sizeLine ∧ ∃ m', m' < m ∧ W (i + 1) m' (ys ++ [y]) τ4 (upd H6 l (.lst (ys ++ [y])))
      else ∃ m', m' < m ∧ W (i + 1) m' ys τ4 H5)
def tComp (ρ : List (Option Nat)) (wi : TI) (g : TG) (tc : TT) (te : TE) : TE := fun σ H Q => wi σ H fun J H1 => ∀ l, H1 l = none → CompOk J g tc te Q l (pick ρ σ) H1


theorem comp_loop {prog : Program} {w : World} {A : Around} {R : Result → Shared → Prop} {s : Shared} {elt target iter : Expr} {ifs : List Expr} {scope : Scope} {pos : Pos} {it acc : Value} {env : Env} (Iv : Nat → Shared → Prop)
    (turn : ∀ n s, Iv n s → wpAny (model prog w) A (pyNext it) (fun r s1 => match r with
      | none => R (.ok .next) s1
      | some v => wpAny (model prog w) A (letOwnedTupleGo target it v) (fun _ s1' => wpAny (model prog w) A (assign target env v) (fun _ s2 =>
          wpAny (model prog w) A (forIn ifs true fun c r => if r = true then do let ok ← isTrue c env (eval c env); pure (ForInStep.yield ok) else pure (ForInStep.yield r)) (fun ok s3 =>
            if ok = true then wpAny (model prog w) A (eval elt env) (fun x s4 =>
              wpAny (model prog w) A (call (.builtin "list.append") [acc, x]) (fun _ s5 => ∃ m, m < n ∧ Iv m s5) (fun _ _ => False) s4) (fun _ _ => False) s3
            else ∃ m, m < n ∧ Iv m s3) (fun _ _ => False) s2) (fun _ _ => False) s1') (fun _ _ => False) s1) (fun _ _ => False) s)
    (n : Nat) (h : Iv n s) : codeAny (model prog w) A (.compLoop (.ListComp elt [⟨target, iter, ifs, 0⟩] scope pos) 0 it acc env) R s := by
  refine codeAny_loop rfl Iv (fun n s hI => ?_) n h
  show wpAny _ A ((compTurn (.ListComp elt [⟨target, iter, ifs, 0⟩] scope pos) 0 it acc env).onRaise (fun x => do noteFrame x env; theTreesLotGoes x)) _ _ s
  refine wpAny_noted ?_
  rw [compTurn_list]
  have no : ∀ {P : Value → Shared → Prop} (e : Value) (s' : Shared), False → P e s' := fun _ _ z => z.elim
  refine wpAny_bind (wpAny_standAt (wpAny_bind (wpAny_mono (turn n s hI) (fun r s1 h1 => ?_) no)))
  cases r with
  | none => exact wpAny_pure h1
  | some v =>
    refine wpAny_bind (wpAny_mono h1 (fun _ s1' h1' => ?_) no)
    refine wpAny_bind (wpAny_mono h1' (fun _ s2 h2 => wpAny_bind (wpAny_mono h2 (fun ok s3 h3 => ?_) no)) no)
    cases ok with
    | false => exact wpAny_pure ⟨rfl, h3⟩
    | true => exact wpAny_bind (wpAny_bind (wpAny_mono h3 (fun x s4 h4 => wpAny_bind (wpAny_mono h4 (fun _ s5 h5 => wpAny_pure (wpAny_pure ⟨rfl, h5⟩)) no)) no))

section
variable {X : Cx} {elt tg iter : Expr} {ifs : List Expr} {scope : Scope} {cl : List (Str × Addr)} {N : List Str} {ρ : List (Option Nat)} {pos : Pos} {wi : TI} {g : TG} {tc : TT} {te : TE}


structure CompScope (X : Cx) (N : List Str) (ρ : List (Option Nat)) (scope : Scope) (cl : List (Str × Addr)) : Prop where
  clos : closureFor scope X.env = pure cl
  nocell : ∀ y ∈ scope.names, y.2 ≠ .cell
  kind : scope.kind = .function
  loc : ∀ y ∈ scope.names, y.2 = .local → scope.names.lookup y.1 = some .local
  sub : ∀ x c, cl.lookup x = some c → X.env.cells.lookup x = some c
  has : ∀ x, ((relabel scope X.env).names.lookup x = some .cell ∨ (relabel scope X.env).names.lookup x = some .free) → ∃ c, cl.lookup x = some c
  len : ρ.length = N.length
  from_ : ∀ (i j : Nat) (x : Str), N[i]? = some x → ρ[i]? = some (some j) → X.N[j]? = some x ∧ (X.env.kindOf x = some .cell ∨ X.env.kindOf x = some .free) ∧ ((relabel scope X.env).names.lookup x = some .cell ∨ (relabel scope X.env).names.lookup x = some .free)

theorem pick_get {ρ : List (Option Nat)} {σ : St} {i : Nat} {v : V} (h : (pick ρ σ)[i]? = some (some v)) : ∃ j, ρ[i]? = some (some j) ∧ σ[j]? = some (some v) := by
  unfold pick at h
  rw [List.getElem?_map] at h
  cases e : ρ[i]? with
  | none => rw [e] at h; cases h
  | some o =>
    rw [e] at h
    cases o with
    | none => cases h
    | some j =>
      refine ⟨j, rfl, ?_⟩
      simp only [Option.map_some, Option.bind_some, Option.some.injEq] at h
      cases e2 : σ[j]? with
      | none => rw [e2] at h; cases h
      | some w =>
        rw [e2] at h
        have h' : w = some v := h
        rw [h']

theorem inv_comp {pins : List (Addr × Obj)} {σ : St} {H : Hp} {s s' : Shared} {fp : List Addr} {h₁ : Heap} (S : CompScope X N ρ scope cl) (I : Inv X pins σ H s) (hf : ∀ b ∈ fp, FpOk X pins H b)
    (hlt : ∀ b ∈ fp, b < s.heap.objs.size) (hns : h₁.Ns s.heap.objs.size (fun _ => none)) (hsb : ∀ b o, s.heap.get? b = some o → h₁.get? b = some o) (es : s' = { s with heap := h₁ }) :
    Inv (cxComp X N scope cl s.heap.objs.size s H fp (X.pn ++ pins)) [] (pick ρ σ) H s' := by
  subst es
  have notStk : ∀ b, b ≠ X.env.locals → b ∉ X.fs → b ∉ frs X.stack := fun b h1 h2 hb => by
    rcases List.mem_cons.mp (I.stkSub b hb) with z | z
    · exact h1 z
    · exact h2 z
  have hC : X.env.locals ≠ s.heap.objs.size := Nat.ne_of_lt I.lt
  refine ⟨⟨I.ok.mod, S.kind, I.ok.glob, I.ok.blt, Nat.le_refl _, fun x y c h1 h2 => I.ok.inj x y c (S.sub x c h1) (S.sub y c h2), fun x hx => S.has x hx, fun x c hx _ => absurd (show false = true from hx) Bool.false_ne_true, I.ok.hd, I.ok.frames, .inl rfl,
    fun b hb => ⟨Nat.ne_of_lt (hlt b hb), fun x c h1 => (hf b hb).2.2.2.2.1 x c (S.sub x c h1)⟩, I.bs, Nat.le_trans I.ok.bsz I.sz, fun b o eo hb => ?_, fun b hb => notStk b (hf b hb).2.1 (hf b hb).2.2.1, I.stack, I.stkFree⟩,
    rfl, I.bare, Un.kept hsb, ⟨_, hns, fun i x v h1 h2 h3 => ?_⟩, fun x c h1 => ?_, I.hok.fresh (Nat.le_refl _), fun x c h1 => I.freeC x c (S.sub x c h1), fun p hp => ?_, I.hok.kept hsb, ?_⟩
  · rcases (hf b hb).2.2.2.1 with z | z
    · exact I.ok.noex b o eo z
    · exact absurd (Heap.lt_size (I.ok.bs b o eo).1) (Nat.not_lt.mpr z)
  · obtain ⟨j, hj, hv⟩ := pick_get h2
    obtain ⟨n1, n2, n3⟩ := S.from_ i j x h1 hj
    obtain ⟨m, hn, hl⟩ := I.loc
    have vis : Vis X.env.scope x := n2.elim (fun z => .inr (.inl z)) fun z => .inr (.inr z)
    obtain ⟨u, ru, lk⟩ := hl j x v n1 hv vis
    refine ⟨u, ru, .inr ⟨n3, ?_⟩⟩
    rcases lk with ⟨hk, _⟩ | ⟨_, c, hc, hcell⟩
    · rcases n2 with z | z
      · rw [z] at hk; cases hk
      · rw [z] at hk; cases hk
    · obtain ⟨c', hc'⟩ := S.has x n3
      have ec := S.sub x c' hc'
      rw [hc] at ec
      cases ec
      obtain ⟨o, ho, hd⟩ := hcell
      exact ⟨c, hc', o, hsb c o ho, hd⟩
  · obtain ⟨v, o, ho, hd⟩ := I.cell x c (S.sub x c h1)
    exact ⟨v, o, hsb c o ho, hd⟩
  · have hp' : p ∈ X.pn ++ pins := by simpa using hp
    obtain ⟨p1, p2, p3, p4, p5⟩ := I.pin p hp'
    exact ⟨hsb _ _ p1, p2, Nat.ne_of_lt (Heap.lt_size p1), notStk _ p3 p4, p5⟩
  · show (pick ρ σ).length = N.length
    unfold pick
    rw [List.length_map]
    exact S.len

theorem pe_comp (hc : X.calm = true) (S : CompScope X N ρ scope cl) (hi : PI X tg iter wi)
    (hg : ∀ C s₀ H₀ ex pn, PG (cxComp X N scope cl C s₀ H₀ ex pn) tg g) (ht : ∀ C s₀ H₀ ex pn, PTs (cxComp X N scope cl C s₀ H₀ ex pn) ifs tc) (he : ∀ C s₀ H₀ ex pn, PE (cxComp X N scope cl C s₀ H₀ ex pn) elt te)
    (hs : ∀ x, foldedSetIterable iter X.env x = pure x := by intro _; rfl) : PE X (.ListComp elt [⟨tg, iter, ifs, 0⟩] scope pos) (tComp ρ wi g tc te) := by
  intro pins s σ H Q I h
  rw [eval_ListComp]
  refine wpAny_comprehension_free (use := none) rfl hs S.clos S.kind S.loc (thn (hi pins s σ H _ I h) fun v s1 h1 => thn h1 fun itv s2 h2 => ?_)
  obtain ⟨it, fp, tn, J, H2, e, I2, T, st2, f2, q2⟩ := h2
  subst e
  obtain ⟨W, ⟨m0, w0⟩, turn⟩ := q2 _ (I2.hok.fresh (Nat.le_refl _))
  refine wpAny_newObj_type (wpAny_newFunctionEnv S.nocell (by intro y hy; simp at hy) (fun h₁ hns₁ hsb₁ => ?_) S.kind)
  dsimp only at hns₁ hsb₁ ⊢
  have I3 : Inv X pins σ (upd H2 s2.heap.objs.size (.lst [])) { s2 with heap := s2.heap.push { cls := .type "list", dict := none, data := .seq ([] : List Value).toArray } } :=
    I2.laid (t' := s2.toks) (fun b u eo => Heap.get?_push_of_some _ eo) (Nat.le_refl _) ⟨by simp, [], 0, .nil, Heap.get?_push_size _ rfl⟩
  generalize hs3 : ({ s2 with heap := s2.heap.push { cls := .type "list", dict := none, data := .seq ([] : List Value).toArray } } : Shared) = s3 at I3
  have es3 : s2.heap.push { cls := .type "list", dict := none, data := .seq ([] : List Value).toArray } = s3.heap := by rw [← hs3]
  rw [es3] at hns₁ hsb₁ ⊢
  have f3 : ∀ b ∈ fp, FpOk X pins (upd H2 s2.heap.objs.size (.lst [])) b := fun b hb => by
    obtain ⟨o, eo, _⟩ := T.obj _ _ st2 b hb
    exact ⟨by rw [upd_ne (Nat.ne_of_lt (Heap.lt_size eo))]; exact (f2 b hb).1, (f2 b hb).2⟩
  have lt3 : ∀ b ∈ fp, b < s3.heap.objs.size := fun b hb => by
    obtain ⟨o, eo, _⟩ := T.obj _ _ st2 b hb
    rw [← es3, Heap.size_push]
    exact Nat.lt_succ_of_lt (Heap.lt_size eo)
  have old : ∀ b o, s3.heap.get? b = some o → h₁.get? b = some o := fun b o eo => hsb₁.extBut b o (Nat.ne_of_lt (Heap.lt_size eo)) (Heap.get?_push_of_some _ eo)
  have Ic : Inv (cxComp X N scope cl s3.heap.objs.size s3 (upd H2 s2.heap.objs.size (.lst [])) fp (X.pn ++ pins)) [] (pick ρ σ) (upd H2 s2.heap.objs.size (.lst [])) { s2 with heap := h₁, toks := s2.toks + ([] : List (Str × Value)).length } :=
    inv_comp S I3 f3 lt3 hns₁ old (by rw [← hs3] <;> rfl)
  have stat : ∀ {pl : List (Addr × Obj)} {H' : Hp}, pl = [] → (∀ b ∈ fp, H' b = none) → ∀ b ∈ fp, FpOk (cxComp X N scope cl s3.heap.objs.size s3 (upd H2 s2.heap.objs.size (.lst [])) fp (X.pn ++ pins)) pl H' b := fun {pl H'} epl hn b hb => by
    subst epl
    refine ⟨hn b hb, Nat.ne_of_lt (lt3 b hb), fun z => ?_, .inl hb, fun x c h1 => (f2 b hb).2.2.2.2.1 x c (S.sub x c h1), fun p hp => (f2 b hb).2.2.2.2.2 p (by simpa using hp)⟩
    rcases List.mem_cons.mp (I3.stkSub b z) with z | z
    · exact (f2 b hb).2.1 z
    · exact (f2 b hb).2.2.1 z
  have st4 : tn 0 h₁ := T.keep _ _ _ st2 fun b hb o eo => old b o (by rw [← es3]; exact Heap.get?_push_of_some _ eo)
  have loop : codeAny (model X.prog X.w) X.A (.compLoop (.ListComp elt [⟨tg, iter, ifs, 0⟩] scope pos) 0 (.ref it) (.ref s2.heap.objs.size) (compEnvC scope cl s3.heap.objs.size X.env))
      (compPost (model X.prog X.w) X.A X.xe none (EP X pins σ Q) (.ref s2.heap.objs.size) s3.heap.objs.size) { s2 with heap := h₁, toks := s2.toks + ([] : List (Str × Value)).length } := by
    refine comp_loop (fun n s' => ∃ i ys τ H', Inv (cxComp X N scope cl s3.heap.objs.size s3 (upd H2 s2.heap.objs.size (.lst [])) fp (X.pn ++ pins)) [] τ H' s' ∧ tn i s'.heap ∧ (∀ b ∈ fp, H' b = none) ∧ W i n ys τ H') ?_ m0
      ⟨0, [], _, _, Ic, st4, fun b hb => (f3 b hb).1, w0⟩
    rintro n s4 ⟨i, ys, τ, H4, I4, st, fr4, w4⟩
    rcases turn i n ys τ H4 w4 with ⟨stop, qn⟩ | ⟨go, step⟩
    · refine thn (T.done (cxComp X N scope cl s3.heap.objs.size s3 (upd H2 s2.heap.objs.size (.lst [])) fp (X.pn ++ pins)) rfl rfl rfl hc i [] s4 τ H4 _ I4 (stat rfl fr4) st stop) fun r s5 ⟨hr, I5⟩ => ?_
      subst hr
      obtain ⟨m5, hn5, _⟩ := I5.loc
      refine ⟨m5, hn5, fun h' hs' => ?_⟩
      have ne : ∀ b, b < s3.heap.objs.size → b ≠ s3.heap.objs.size := fun b hb => Nat.ne_of_lt hb
      have get' : ∀ b o, b ≠ s3.heap.objs.size → s5.heap.get? b = some o → h'.get? b = some o := fun b o hb eo => (hs'.2 b hb).trans eo
      have un : Un (frs X.stack) fp (upd H2 s2.heap.objs.size (.lst [])) H4 s3.heap h' :=
        ⟨fun b o eo n1 n2 n3 => get' b o (ne b (Heap.lt_size eo)) (I5.base.keep b o eo n1 n2 n3), fun b o eo n1 n2 n3 => let ⟨sl, z⟩ := I5.base.slot b o eo n1 n2 n3; ⟨sl, get' b _ (ne b (Heap.lt_size eo)) z⟩,
          I5.base.free, fun b o eo n1 => let ⟨o', z⟩ := I5.base.there b o eo n1; ⟨o', get' b _ (ne b (Heap.lt_size eo)) z⟩, I5.base.tups, I5.base.frzs, I5.base.tbls⟩
      have hok : HOk X.prog X.w H4 h' := fun a o ea => (I5.hok a o ea).stay (fun b u hb eo => get' b u (fun z => by
        have fr : H4 s3.heap.objs.size = none := I5.free
        rcases hb with rfl | hb
        · rw [z, fr] at ea; cases ea
        · rw [z, fr] at hb; cases hb) eo) (fun _ z => z) fun _ _ z => z
      have I6 : Inv X pins σ H4 { s5 with heap := h' } := I3.call' (s' := { s5 with heap := h' }) (ch := fp) (show s5.os = s3.os from I5.os) un hok I5.bare fun b hb => (f3 b hb).2.2.2
          |> fun z => ⟨(f3 b hb).2.2.2.1, (f3 b hb).2.1, (f3 b hb).2.2.2.2.1, (f3 b hb).2.2.2.2.2⟩
      exact ⟨.ref s2.heap.objs.size, H4, I6, rfl, qn⟩
    · refine thn (T.item (cxComp X N scope cl s3.heap.objs.size s3 (upd H2 s2.heap.objs.size (.lst [])) fp (X.pn ++ pins)) rfl rfl rfl hc i [] s4 τ H4 _ I4 (stat rfl fr4) st go) fun r s5 ⟨u, hr, h5⟩ => ?_
      subst hr
      refine thn h5 fun _ s6 ⟨x, H6, I6, r6, y6, st6, fr6⟩ => ?_
      have I6' := I6.pinned (stat rfl fr6) (T.obj _ _ st6)
      have again : ∀ {s9 : Shared} {τ9 : St} {H9 : Hp} {zs : List V} {m' : Nat}, Inv (cxComp X N scope cl s3.heap.objs.size s3 (upd H2 s2.heap.objs.size (.lst [])) fp (X.pn ++ pins)) ([] ++ pinsAt fp s6.heap) τ9 H9 s9 → m' < n → W (i + 1) m' zs τ9 H9 →
          ∃ m, m < n ∧ ∃ i ys τ H', Inv (cxComp X N scope cl s3.heap.objs.size s3 (upd H2 s2.heap.objs.size (.lst [])) fp (X.pn ++ pins)) [] τ H' s9 ∧ tn i s9.heap ∧ (∀ b ∈ fp, H' b = none) ∧ W i m ys τ H' := fun {s9 τ9 H9 zs m'} I9 hm w9 => by
        refine ⟨m', hm, i + 1, zs, τ9, H9, I9.unpinned, T.keep _ _ _ st6 fun b hb o eo => (I9.pin (b, o) (List.mem_append_right _ (List.mem_append_right _ (mem_pinsAt hb eo)))).1, fun b hb => ?_, w9⟩
        obtain ⟨o, eo, d⟩ := T.obj _ _ st6 b hb
        exact (I9.pin (b, o) (List.mem_append_right _ (List.mem_append_right _ (mem_pinsAt hb eo)))).2.1
      refine thn (hg _ _ _ _ _ _ s6 τ H6 x u _ I6' r6 (step x H6 y6)) fun _ s7 ⟨τ7, H7, I7, q7⟩ => ?_
      refine thn (ht _ _ _ _ _ _ s7 τ7 H7 _ I7 q7) fun ok s8 ⟨H8, I8, q8⟩ => ?_
      cases ok with
      | false =>
        rw [if_neg Bool.false_ne_true] at q8 ⊢
        obtain ⟨m', hm, w9⟩ := q8
        exact again I8 hm w9
      | true =>
        rw [if_pos rfl] at q8 ⊢
        refine thn (he _ _ _ _ _ _ s8 τ7 H8 _ I8 q8) fun y s9 ⟨z, H9, I9, r9, hl9, hz9, m', hm, w9⟩ => ?_
        refine thn (mt_append _ s9 τ7 H9 (.ref s2.heap.objs.size) [z] (.ref s2.heap.objs.size) [y] (fun _ H' => H' = upd H9 s2.heap.objs.size (.lst (ys ++ [z]))) I9 rfl (.cons r9 .nil) ⟨_, ys, z, rfl, rfl, hl9, hz9, rfl⟩) fun _ s10 ⟨_, H10, I10, _, e10⟩ => ?_
        subst e10
        exact again I10 hm w9
  exact codeAny_compStart_list loop (T.self _ 0 _ _ _ st4 loop)
end
end L2


set_option linter.all false
set_option maxRecDepth 100000
set_option maxHeartbeats 4000000
namespace L2
open PySem PySem.Spec PyProof.Rows

theorem CompScope.plain {X : Cx} {N : List Str} {ρ : List (Option Nat)} {scope : Scope} (hk : scope.kind = .function) (hn : ∀ y ∈ scope.names, y.2 ≠ .cell ∧ y.2 ≠ .free)
    (hl : ∀ y ∈ scope.names, y.2 = .local → scope.names.lookup y.1 = some .local) (hlen : ρ.length = N.length) (hρ : ∀ o ∈ ρ, o = none) : CompScope X N ρ scope [] := by
  have hre : (relabel scope X.env).names = scope.names := by
    unfold relabel
    refine map_eq_self fun y hy => ?_
    obtain ⟨n, k⟩ := y
    have hf : (k == NameKind.free) = false := by
      have := (hn _ hy).2
      cases k <;> first | rfl | exact absurd rfl this
    show (if (k == NameKind.free && X.env.scope.kind == .function && X.env.kindOf n == some .cell) = true then (n, NameKind.cell) else (n, k)) = (n, k)
    rw [hf]
    rfl
  refine ⟨closureFor_none fun y hy => (hn y hy).2, fun y hy => (hn y hy).1, hk, hl, fun x c h => (by cases h), fun x h => ?_, hlen, fun i j x _ h => ?_⟩
  · rw [hre] at h
    rcases h with h | h
    · exact absurd rfl (hn _ (PySem.mem_of_lookup h)).1
    · exact absurd rfl (hn _ (PySem.mem_of_lookup h)).2
  · have := hρ _ (List.mem_of_getElem? h)
    cases this


theorem comp_str {x : Str} {te : TE} {Q : VK} {H : Hp} {l : Addr} {τ : St} (f : Nat → V) (hl : H l = none) (hτ : 0 < τ.length) (hz : x.cps.size ≤ sizeLine)
    (ht : ∀ (τ' : St) (c : Nat) (H' : Hp) (R : VK), τ'[0]? = some (some (.str ⟨#[c]⟩)) → c ∈ x.cps.toList → R (f c) H' → te τ' H' R) (hq : Q (.ref l) (upd H l (.lst (x.cps.toList.map f)))) :
    CompOk (Its x) (gName 0) tYes te Q l τ H := by
  refine ⟨fun i m ys τ' H2 => m = x.cps.size - i ∧ i ≤ x.cps.size ∧ ys = (x.cps.toList.take i).map f ∧ 0 < τ'.length ∧ H2 = upd H l (.lst ys), ⟨x.cps.size, by simp, Nat.zero_le _, by simp, hτ, rfl⟩, ?_⟩
  rintro i m ys τ' H2 ⟨rfl, hi, rfl, hτ', rfl⟩
  by_cases hlt : i < x.cps.size
  · refine .inr ⟨hlt, fun v H3 hy => ?_⟩
    obtain ⟨eH, c, hc, rfl⟩ := hy
    subst eH
    have hc' : x.cps.toList[i]? = some c := by simpa using hc
    show te _ _ _
    refine ht _ c _ _ ?_ (List.mem_of_getElem? hc') ?_
    · rw [List.getElem?_set_self hτ']
    · have ht1 : (x.cps.toList.take (i + 1)).map f = (x.cps.toList.take i).map f ++ [f c] := by
        rw [List.take_add_one, hc', List.map_append]; rfl
      refine ⟨upd_same, ?_, x.cps.size - (i + 1), by omega, rfl, hlt, ht1.symm, by rw [List.length_set]; exact hτ', by rw [upd_upd]⟩
      rw [List.length_map, List.length_take]
      have : x.cps.toList.length = x.cps.size := by simp
      omega
  · have ei : i = x.cps.size := by omega
    subst ei
    refine .inl ⟨rfl, ?_⟩
    have : x.cps.toList.take x.cps.size = x.cps.toList := by
      apply List.take_of_length_le
      simp
    rw [this]
    exact hq

end L2


set_option linter.all false
set_option maxRecDepth 100000
set_option maxHeartbeats 4000000
namespace L2
open PySem PySem.Spec PyProof.Rows

def closL (cs : List (Str × Addr)) : List (Str × NameKind) → List (Str × Addr) → List (Str × Addr)
  | [], acc => acc
  | y :: r, acc => closL cs r (if y.2 == .free then (y.1, (cs.lookup y.1).getD 0) :: acc else acc)
theorem closL_val (cs : List (Str × Addr)) : ∀ (names : List (Str × NameKind)) (acc : List (Str × Addr)), (∀ p ∈ acc, p.2 = (cs.lookup p.1).getD 0) → ∀ p ∈ closL cs names acc, p.2 = (cs.lookup p.1).getD 0
  | [], acc, h => h
  | y :: r, acc, h => by
    unfold closL
    refine closL_val cs r _ ?_
    split
    · intro p hp
      rcases List.mem_cons.mp hp with rfl | hp
      · rfl
      · exact h p hp
    · exact h
theorem closL_mem (cs : List (Str × Addr)) : ∀ (names : List (Str × NameKind)) (acc : List (Str × Addr)), ∀ p ∈ closL cs names acc, p ∈ acc ∨ ∃ y ∈ names, y.1 = p.1 ∧ y.2 = .free
  | [], acc, p, hp => .inl hp
  | y :: r, acc, p, hp => by
    unfold closL at hp
    rcases closL_mem cs r _ p hp with h | ⟨z, hz, h⟩
    · split at h
      · rename_i hy
        rcases List.mem_cons.mp h with rfl | h
        · refine .inr ⟨y, List.mem_cons_self, rfl, ?_⟩
          cases hk : y.2 <;> rw [hk] at hy <;> first | rfl | cases hy
        · exact .inl h
      · exact .inl h
    · exact .inr ⟨z, List.mem_cons_of_mem _ hz, h⟩
theorem closL_acc (cs : List (Str × Addr)) : ∀ (names : List (Str × NameKind)) (acc : List (Str × Addr)), ∀ p ∈ acc, p ∈ closL cs names acc
  | [], acc, p, hp => hp
  | y :: r, acc, p, hp => by
    unfold closL
    refine closL_acc cs r _ p ?_
    split
    · exact List.mem_cons_of_mem _ hp
    · exact hp
theorem closL_has (cs : List (Str × Addr)) : ∀ (names : List (Str × NameKind)) (acc : List (Str × Addr)), ∀ y ∈ names, y.2 = .free → (y.1, (cs.lookup y.1).getD 0) ∈ closL cs names acc
  | [], acc, y, hy, _ => absurd hy (by simp)
  | z :: r, acc, y, hy, hf => by
    unfold closL
    rcases List.mem_cons.mp hy with rfl | hy
    · refine closL_acc cs r _ _ ?_
      rw [if_pos (by rw [hf]; rfl)]
      exact List.mem_cons_self
    · exact closL_has cs r _ y hy hf
theorem lookup_of_mem : ∀ {l : List (Str × Addr)} {x : Str} {c : Addr}, (x, c) ∈ l → ∃ d, l.lookup x = some d
  | [], _, _, h => absurd h (by simp)
  | (n, k) :: r, x, c, h => by
    rw [List.lookup_cons]
    cases hx : x == n with
    | true => exact ⟨k, rfl⟩
    | false =>
      rcases List.mem_cons.mp h with e | h
      · cases e; simp at hx
      · exact lookup_of_mem h
theorem closureFor_of {scope : Scope} {env : Env} (h : ∀ y ∈ scope.names, y.2 = .free → ∃ c, env.cells.lookup y.1 = some c) : closureFor scope env = pure (closL env.cells scope.names []) := by
  have go : ∀ (names : List (Str × NameKind)) (acc : List (Str × Addr)), (∀ y ∈ names, y.2 = .free → ∃ c, env.cells.lookup y.1 = some c) →
      (forIn (m := Sem) names acc (fun x r => if (x.2 == NameKind.free) = true then do let c ← cellOf env x.1; pure (ForInStep.yield ((x.1, c) :: r)) else pure (ForInStep.yield r))) = pure (closL env.cells names acc) := by
    intro names
    induction names with
    | nil => intro acc _; rfl
    | cons y r ih =>
      intro acc hy
      rw [List.forIn_cons]
      unfold closL
      by_cases hf : (y.2 == NameKind.free) = true
      · have hf' : y.2 = .free := by cases hk : y.2 <;> rw [hk] at hf <;> first | rfl | cases hf
        obtain ⟨c, hc⟩ := hy y List.mem_cons_self hf'
        have e : cellOf env y.1 = pure c := by unfold cellOf; rw [hc]
        rw [if_pos hf, if_pos hf, e, pure_bind, pure_bind, hc]
        exact ih _ fun z hz => hy z (List.mem_cons_of_mem _ hz)
      · rw [if_neg hf, if_neg hf, pure_bind]
        exact ih _ fun z hz => hy z (List.mem_cons_of_mem _ hz)
  have h2 := go scope.names [] h
  simp only [closureFor]
  refine Eq.trans (congrArg (· >>= _) ?_) (by rw [pure_bind])
  exact h2
theorem lookup_relab (g : Str → NameKind → NameKind) : ∀ (l : List (Str × NameKind)) (x : Str), (l.map fun y => (y.1, g y.1 y.2)).lookup x = (l.lookup x).map (g x)
  | [], _ => rfl
  | (n, k) :: r, x => by
    rw [List.map_cons, List.lookup_cons, List.lookup_cons]
    cases hx : x == n with
    | true =>
      have e : x = n := by simpa using hx
      subst e
      rfl
    | false => exact lookup_relab g r x
theorem relabel_lookup (scope : Scope) (env : Env) (x : Str) : (relabel scope env).names.lookup x = (scope.names.lookup x).map fun k => if (k == NameKind.free && env.scope.kind == .function && env.kindOf x == some .cell) = true then .cell else k := by
  rw [← lookup_relab (fun n k => if (k == NameKind.free && env.scope.kind == .function && env.kindOf n == some .cell) = true then .cell else k)]
  unfold relabel
  congr 1
  refine List.map_congr_left fun y _ => ?_
  obtain ⟨n, k⟩ := y
  show (if (k == NameKind.free && env.scope.kind == .function && env.kindOf n == some .cell) = true then (n, NameKind.cell) else (n, k)) = _
  dsimp only
  split <;> rfl

def fromOk (N : List Str) (ρ : List (Option Nat)) (XN : List Str) (dn sn : List (Str × NameKind)) : Bool :=
  (N.zip ρ).all fun p => match p.2 with
    | none => true
    | some j => decide (XN[j]? = some p.1) && decide (dn.lookup p.1 = some .cell) && decide (sn.lookup p.1 = some .free)
theorem CompScope.closes {X : Cx} {N : List Str} {ρ : List (Option Nat)} {scope : Scope} (XN : List Str) (dn : List (Str × NameKind)) (hXN : X.N = XN) (hdn : X.env.scope.names = dn) (hk : scope.kind = .function) (hX : X.env.scope.kind = .function) (hn : ∀ y ∈ scope.names, y.2 ≠ .cell)
    (hfree : ∀ y ∈ scope.names, y.2 = .free → dn.lookup y.1 = some .cell) (hcell : ∀ x, X.env.scope.names.lookup x = some .cell → ∃ c, X.env.cells.lookup x = some c) (hl : ∀ y ∈ scope.names, y.2 = .local → scope.names.lookup y.1 = some .local) (hlen : ρ.length = N.length)
    (hfrom : fromOk N ρ XN dn scope.names = true) : CompScope X N ρ scope (closL X.env.cells scope.names []) := by
  subst hXN hdn
  have kd : ∀ x, X.env.kindOf x = X.env.scope.names.lookup x := fun _ => rfl
  refine ⟨closureFor_of fun y hy hf => hcell _ (hfree y hy hf), hn, hk, hl, fun x c h => ?_, fun x h => ?_, hlen, fun i j x h1 h2 => ?_⟩
  · have hm := PySem.mem_of_lookup h
    have hv := closL_val X.env.cells scope.names [] (fun p hp => absurd hp (by simp)) _ hm
    rcases closL_mem X.env.cells scope.names [] _ hm with z | ⟨y, hy, e1, e2⟩
    · exact absurd z (by simp)
    · obtain ⟨d, hd⟩ := hcell _ (hfree y hy e2)
      have e1' : y.1 = x := e1
      rw [e1'] at hd
      have hv' : c = (X.env.cells.lookup x).getD 0 := hv
      rw [hd] at hv'
      rw [hd, hv']; rfl
  · rw [relabel_lookup] at h
    have hfr : scope.names.lookup x = some .free := by
      cases e : scope.names.lookup x with
      | none => rw [e] at h; rcases h with h | h <;> cases h
      | some k =>
        rw [e] at h
        cases k with
        | free => rfl
        | cell => exact absurd rfl (hn _ (PySem.mem_of_lookup e))
        | _ => rcases h with h | h <;> cases h
    exact lookup_of_mem (closL_has X.env.cells scope.names [] _ (PySem.mem_of_lookup hfr) rfl)
  · unfold fromOk at hfrom
    rw [List.all_eq_true] at hfrom
    have hm : (x, some j) ∈ N.zip ρ := by
      refine List.mem_of_getElem? (i := i) ?_
      rw [List.getElem?_zip_eq_some]
      exact ⟨h1, h2⟩
    have h3 := hfrom _ hm
    simp only [Bool.and_eq_true, decide_eq_true_eq] at h3
    obtain ⟨⟨a1, a2⟩, a3⟩ := h3
    refine ⟨a1, .inl (by rw [kd]; exact a2), .inl ?_⟩
    rw [relabel_lookup, a3, kd, a2, hX]
    rfl


end L2


set_option linter.all false
set_option maxRecDepth 100000
set_option maxHeartbeats 4000000
namespace L2
open PySem PySem.Spec PyProof.Rows
section
variable {X : Cx}
theorem vals_bl : ∀ {bs : List Bool} {us : List Value} {i : Nat} {v : Value}, Vals (bs.map V.bl) us → us[i]? = some v → ∃ b, bs[i]? = some b ∧ v = .bool b := by
  intro bs us i v r e
  cases e2 : (bs.map V.bl)[i]? with
  | none =>
    have := r.none_of e2
    rw [this] at e; cases e
  | some x =>
    obtain ⟨u, hu, ru⟩ := r.get e2
    rw [hu] at e; cases e
    rw [List.getElem?_map] at e2
    cases e3 : bs[i]? with
    | none => rw [e3] at e2; cases e2
    | some b =>
      rw [e3] at e2
      have e4 : V.bl b = x := Option.some.inj e2
      subst e4
      exact ⟨b, rfl, ru⟩
theorem range_all_get (bs : List Bool) : ((List.range bs.length).all fun i => (bs[i]?).getD true) = bs.all id := by
  rw [Bool.eq_iff_iff, List.all_eq_true, List.all_eq_true]
  constructor
  · intro h b hb
    obtain ⟨i, hi, rfl⟩ := List.mem_iff_getElem.mp hb
    have := h i (List.mem_range.mpr hi)
    rw [List.getElem?_eq_getElem hi] at this
    exact this
  · intro h i hi
    have hi' := List.mem_range.mp hi
    rw [List.getElem?_eq_getElem hi']
    exact h _ (List.getElem_mem hi')
theorem call_all (hc : X.calm = true) : CallR X (.builtin "all") (fun xs H Q => ∃ (p : Addr) (bs : List Bool), xs = [.ref p] ∧ SqL X.K H p (bs.map V.bl) ∧ Q (.bl (bs.all id)) H) := by
  intro pins s σ H xs us Q I r h
  obtain ⟨p, bs, rfl, hq, q⟩ := h
  obtain ⟨u, rfl, rx⟩ := vals1 r
  cases rx
  obtain ⟨its, rv, pl, hz⟩ := I.list hq
  have hl := pl.isList
  have hlt : p < s.heap.objs.size := by obtain ⟨_, e, _⟩ := hl; exact Heap.lt_size e
  have hlen : bs.length = its.length := by have := rv.length; rwa [List.length_map] at this
  refine call_all_walk (wpAny_pyIter_list hl ?_)
  refine ⟨s.heap.objs.size, [s.heap.objs.size, p], [s.heap.objs.size], its.toArray.size, _, _, fun i => (bs[i]?).getD true, rfl, Walks.list (A := X.A.in1) (I.ok.hd hc) _ p (Nat.ne_of_lt hlt) its.toArray,
    ⟨⟨_, Heap.get?_push_size _ rfl, rfl, rfl⟩, hl.push _⟩, fun i v s' Q' E' hP hQ => ?_, fun h' tk hk => ?_⟩
  · obtain ⟨b, eb, rfl⟩ := vals_bl rv (i := i) (v := v) (by simpa using hP)
    simp only [eb, Option.getD_some] at hQ
    exact wpAny_truthy_bool hQ
  · have e : ((List.range its.toArray.size).all fun i => (bs[i]?).getD true) = bs.all id := by
      rw [List.size_toArray, ← hlen]; exact range_all_get bs
    rw [e]
    exact ⟨.bl _, H, I.kept (t' := tk) fun b o eb => hk b o (fun z => by rw [List.mem_singleton.mp z] at eb; exact Nat.lt_irrefl _ (Heap.lt_size eb)) (Heap.get?_push_of_some _ eb), rfl, q⟩

theorem strsAre_of : ∀ {ys : List Str} {us : List Value}, Vals (ys.map V.str) us → StrsAre us ys
  | [], _, .nil => .nil
  | _ :: _, _, .cons ⟨t, e⟩ r => by subst e; exact .cons _ _ (strsAre_of r)
def rJoin (K : PySem.W.Frag) : V → List V → Hp → VK → Prop := fun x vs H Q => ∃ (z : Str) (p : Addr) (ys : List Str), x = .str z ∧ vs = [.ref p] ∧ SqL K H p (ys.map V.str) ∧ (ys.map (·.length)).sum + ys.length * z.length ≤ 16777216 ∧ Q (.str (Txt.join z ys)) H
theorem mt_join : MtR X "str.join" (rJoin X.K) := by
  intro pins s σ H x xs v us Q I rx rs h
  obtain ⟨z, p, ys, rfl, rfl, hq, hz, q⟩ := h
  obtain ⟨t, rfl⟩ := rx
  obtain ⟨u, rfl, ru⟩ := rs.one
  cases ru
  obtain ⟨its, rv, pl, _⟩ := I.list hq
  exact join_list pl.isList (by simpa using strsAre_of rv) hz fun t' k => ⟨.str _, H, I.tok _, ⟨_, rfl⟩, q⟩

theorem sl_str : SlR X (fun x lo hi H Q => ∃ z, x = .str z ∧ z.length ≤ sizeLine ∧ Q (.str (Txt.slice z lo hi)) H) := by
  intro pins s σ H x v vl vu lo hi sl Q I rx hs pl pu h
  obtain ⟨z, rfl, hz, q⟩ := h
  obtain ⟨t, rfl⟩ := rx
  refine ⟨"str", _, F.slot_str_getitem.lookup, typeIs_str _ _ _, ?_⟩
  have fin : ∀ (t' : Tok) (k : Nat), EP X pins σ Q (.str (Txt.slice z lo hi) t') { s with toks := k } := fun t' k => ⟨.str _, H, I.tok _, ⟨_, rfl⟩, q⟩
  obtain ⟨o, ho, hc, hd⟩ := hs
  cases pl with
  | none =>
    cases pu with
    | none => exact wpAny_getItem_str_slice (l := none) (u := none) (st := none) ⟨o, ho, hc, hd⟩ rfl (post_val_or_str ⟨Nat.le_trans (Txt.slice_le z _ _) hz, fin⟩)
    | int j uj => exact wpAny_getItem_str_slice (l := none) (u := some (j, uj)) (st := none) ⟨o, ho, hc, hd⟩ rfl (post_val_or_str ⟨Nat.le_trans (Txt.slice_le z _ _) hz, fin⟩)
  | int i ui =>
    cases pu with
    | none => exact wpAny_getItem_str_slice (l := some (i, ui)) (u := none) (st := none) ⟨o, ho, hc, hd⟩ rfl (post_val_or_str ⟨Nat.le_trans (Txt.slice_le z _ _) hz, fin⟩)
    | int j uj => exact wpAny_getItem_str_slice (l := some (i, ui)) (u := some (j, uj)) (st := none) ⟨o, ho, hc, hd⟩ rfl (post_val_or_str ⟨Nat.le_trans (Txt.slice_le z _ _) hz, fin⟩)

theorem op_le_str : OpR X (compareOp .LtE) (fun x y H Q => ∃ i j, x = .str i ∧ y = .str j ∧ Q (.bl (!decide (j.cps.toList < i.cps.toList))) H) := by
  intro pins s σ H x y v u Q I rx ry h
  obtain ⟨i, j, rfl, rfl, q⟩ := h
  obtain ⟨t, rfl⟩ := rx
  obtain ⟨t', rfl⟩ := ry
  exact PySem.P.le_str (fin_bl I q rfl)


def clsV : V → Option Value
  | .ty n => some (.type n)
  | .ref a => some (.ref a)
  | _ => none
theorem clsV_rel {c : V} {u w : Value} (h : clsV c = some u) (r : RelV c w) : w = u := by
  cases c with
  | ty n => cases h; exact r
  | ref a => cases h; exact r
  | _ => cases h
theorem call_isi : CallR X (.builtin "isinstance") (fun xs H Q => ∃ x c t u b, xs = [x, c] ∧ TyOf X.K H x t ∧ clsV c = some u ∧ PySem.W.kitOne X.K t u = some b ∧ Q (.bl b) H) := by
  intro pins s σ H xs us Q I r h
  obtain ⟨x, c, t, u, b, rfl, ty, rc, e, q⟩ := h
  obtain ⟨v, w, rfl, rv, rw'⟩ := vals2 r
  have eu : w = u := clsV_rel rc rw'
  subst eu
  exact isinst_ok I rv ty e fun tk => ⟨.bl b, H, I.tok tk, rfl, q⟩
end



def NoT (H : Hp) : Prop := ∀ a, (∀ kvs, H a ≠ some (.dT kvs)) ∧ ∀ o kvs, H a ≠ some (.frz o (.dT kvs))
def plainH : HO → Bool
  | .dT _ => false
  | .frz _ u => plainH u
  | _ => true
theorem ObjOk.less {P : Program} {w : World} {H H' : Hp} {h h' : Heap} {a : Addr} {o : HO} (hp : plainH o = true) (x : ObjOk P w H' h' a o) (y : ObjOk P w H h a o) : ObjOk P w H h' a o := by
  induction o with
  | dT kvs => cases hp
  | ins C dx fs => exact ⟨y.1, x.2⟩
  | frz ob u ih => exact ⟨x.1, ih hp x.2 y.2⟩
  | lst xs => exact x
  | tup xs => exact x
  | dK kvs => exact x
  | set S n => exact x
  | own z => exact x
  | xd fs => exact x
  | rng lo hi => exact x
  | tbl ps => exact x
  | met f z => exact x
  | ext φ => exact x
section
variable {X : Cx} {pins : List (Addr × Obj)} {σ : St} {H H' : Hp} {s s' : Shared}
theorem Inv.less (hp : ∀ a o, H a = some o → plainH o = true) (I : Inv X pins σ H s) (I' : Inv X pins σ H' s') (sm : Same H H') : Inv X pins σ H s' :=
  ⟨I.ok, I'.os, I'.bare, ⟨I'.base.keep, I'.base.slot, I.base.free, I'.base.there, I.base.tups, I.base.frzs, I.base.tbls⟩, I'.loc, I'.cell, I.free, I.freeC, fun p hpp => ⟨(I'.pin p hpp).1, (I.pin p hpp).2⟩,
    fun a o ea => (I'.hok a o (sm a o ea)).less (hp a o ea) (I.hok a o ea), I.len⟩
def Plain (H : Hp) : Prop := ∀ a o, H a = some o → plainH o = true
theorem Plain.upd {H : Hp} {a : Addr} {o : HO} (h : Plain H) (ho : plainH o = true) : Plain (upd H a o) := fun b u e => by
  by_cases hb : b = a
  · subst hb; rw [upd_same] at e; cases e; exact ho
  · rw [upd_ne hb] at e; exact h b u e

def tPure (t : TE) : TE := fun σ H Q => Plain H ∧ t σ H fun v H' => Same H H' ∧ Q v H
theorem pe_pure {e : Expr} {t : TE} (h : PE X e t) : PE X e (tPure t) := by
  intro pins s σ H Q I ⟨hp, hw⟩
  exact thn (h pins s σ H _ I hw) fun v s1 ⟨x, H1, I1, r1, sm, q⟩ => ⟨x, H, I.less hp I1 sm, r1, q⟩
end
end L2


set_option linter.all false
set_option maxRecDepth 100000
set_option maxHeartbeats 4000000
namespace L2
open PySem PySem.Spec PyProof.Rows

structure ExcAt (K : PySem.W.Frag) (C : Addr) : Prop where
  ga : PySem.W.findIn K (.ref C) "__getattribute__" = some (some (.builtin "BaseException.__getattribute__"))
  gt : PySem.W.findIn K (.ref C) "__getattr__" = some none
  cl : PySem.W.findIn K (.ref C) "__class__" = some (some (.builtin "object.__class__"))
  mb : PySem.W.mroIn K C (.type "BaseException") = some true
  mo : PySem.W.mroIn K C (.type "object") = some true
  gs : PySem.W.specialIn K (.builtin "object.__class__") "__get__" = some (some (.builtin "getset_descriptor.__get__"))
  tk : PySem.W.takesIn K (.builtin "object.__class__") = some true
section
variable {prog : Program} {w : World} {A : Around} {E : Value → Shared → Prop} {s : Shared} {K : PySem.W.Frag} {e C : Addr}
open PySem.W Builtin Builtin.ObjectAttr Builtin.Getset_descriptor in
theorem exc_find {M : Model} {h : Heap} (X : K.In h) (c : ExcAt K C) : Looks M h (find (.ref e) (.ref C) "__class__") (Found.bind (Value.builtin "getset_descriptor.__get__") (Value.builtin "object.__class__")) := by
  have L2 : Looks M h (getOf (some (.builtin "object.__class__"))) (some (.builtin "getset_descriptor.__get__")) := looks_specialIn X c.gs
  have L3 : Looks M h (dataDescriptor? (some (.builtin "object.__class__")) (some (.builtin "getset_descriptor.__get__"))) (some (.builtin "getset_descriptor.__get__", .builtin "object.__class__")) := (looks_takesIn X c.tk).andThen .now
  exact (looks_findIn X c.cl).andThen (L2.andThen (L3.andThen (Looks.tag .now)))
open PySem.W Builtin Builtin.ObjectAttr Builtin.Getset_descriptor in
theorem exc_get {R : Result → Shared → Prop} {tp : Value} {oe : Obj} (X : K.In s.heap) (c : ExcAt K C) (he : s.heap.get? e = some oe) (hc : oe.cls = .ref C) (h : R (.ok (.ret (.ref C))) s) :
    codeAny (model prog w) A (.call (.builtin "getset_descriptor.__get__") ⟨[.builtin "object.__class__", .ref e, tp], []⟩) R s := by
  obtain ⟨hh, g, dr, t, os⟩ := s
  have L0 : Looks (model prog w) hh (typeOf (.ref e)) (.ref C) := hc ▸ (Looks.ld he).andThen .now
  have L1 := looks_mroIn (M := model prog w) X c.mo
  refine codeAny_call_builtin KF.slot_gs.plain
    KF.entry_gs (KF.slot_gs.check _ _ _ _ _ _ _ _
      KF.type_class (KF.args_gs _ _ _) ?_)
  unfold Builtin.«getset_descriptor.__get__» descrGet
  rw [dga_obj]
  refine wpAny_bind (wpAny_pure ?_)
  unfold descrGetter descrCheckInstance descrNameAndClass
  unfold isInstance
  simp only [KF.owner_class]
  repeat lk
  refine ⟨Code.quiet_builtin _ (by decide +kernel), ?_⟩
  refine codeAny_builtin KF.entry_class ?_
  unfold Builtin.«object.__class__»
  unfold shownTypeOf
  repeat lk
  exact h
open PySem.W Builtin Builtin.ObjectAttr Builtin.Getset_descriptor in
theorem exc_getattribute {R : Result → Shared → Prop} {tk : Tok} {oe : Obj} (X : K.In s.heap) (c : ExcAt K C) (he : s.heap.get? e = some oe) (hc : oe.cls = .ref C) (h : R (.ok (.ret (.ref C))) s) :
    codeAny (model prog w) A (.call (.builtin "BaseException.__getattribute__") ⟨[.ref e, .str "__class__" tk], []⟩) R s := by
  obtain ⟨hh, g, dr, t, os⟩ := s
  have L0 : Looks (model prog w) hh (typeOf (.ref e)) (.ref C) := hc ▸ (Looks.ld he).andThen .now
  have L1 := looks_mroIn (M := model prog w) X c.mb
  have L3 := exc_find (e := e) (M := model prog w) X c
  have hk : builtinKind "BaseException.__getattribute__" = some .slot := by decide +kernel
  have hsplit : splitId "BaseException.__getattribute__" = some ("BaseException", "__getattribute__") := by decide +kernel
  have ha := PySem.F.args_bexc_ga (.ref e) (.str "__class__" tk)
  refine codeAny_call_builtin PySem.F.excAttr_ValueError.ga.plain PySem.F.entry_bexc_ga ?_
  simp only [checkBuiltinCall, hk, hsplit]
  unfold isInstance
  repeat lk
  refine wpAny_run (exc_get X c he hc ?_)
  dsimp only
  repeat lk
  exact h
open PySem.W Builtin Builtin.ObjectAttr Builtin.Getset_descriptor in
theorem exc_class {Q : Option Value → Shared → Prop} {oe : Obj} (X : K.In s.heap) (c : ExcAt K C) (he : s.heap.get? e = some oe) (hc : oe.cls = .ref C) (h : Q (some (.ref C)) { s with toks := s.toks + 1 }) :
    wpAny (model prog w) A (getAttr? (.ref e) "__class__") Q E s := by
  obtain ⟨hh, g, d, t, os⟩ := s
  have L0 : Looks (model prog w) hh (typeOf (.ref e)) (.ref C) := hc ▸ (Looks.ld he).andThen .now
  have L1 := looks_findIn (M := model prog w) X c.ga
  have L2 := looks_findIn (M := model prog w) X c.gt
  have hb := PySem.F.excAttr_ValueError.ga.bind (.ref e)
  unfold getAttr? getAttrBy? getAttrBy
  refine wpAny_bind (wpAny_mkText (wpAny_bind (wpAny_attempt (wpAny_holding (wpAny_bind (L0.at (wpAny_bind (L1.at ?_))))))))
  show wpAny _ _ (getAttrByItsOwn _ _ _ _ _ _) _ _ _
  unfold getAttrByItsOwn hookBefore
  refine wpAny_bind (L2.at ?_)
  refine wpAny_bind (wpAny_attempt (wpAny_holding ?_))
  show wpAny _ _ (boundAndCalled _ _ _) _ _ _
  unfold boundAndCalled
  rw [hb]
  refine wpAny_bind (wpAny_pure ?_)
  refine wpAny_call (exc_getattribute (s := ⟨hh, g, d, t + 1, os⟩) X c he hc ?_)
  dsimp only
  exact handed_on rfl (wpAny_pure h)
open PySem.W in
theorem kitx_exc (hq : Exc K C) (c : ExcAt K C) : KitX K (.ref e) (.ref C) (fun h => ∃ oe, h.get? e = some oe ∧ oe.cls = .ref C) where
  ty := fun M h _ ⟨oe, he, hc⟩ => hc ▸ (Looks.ld he).andThen .now
  it := fun M h X _ => by
    obtain ⟨_, _, _, _, _, _, _, _, _, _, _, _, _, _, _, _, _, hC, _⟩ := exc_obj X hq
    intro A' Q' E' s' k q
    unfold isType loadHead
    exact wpAny_bind (wpAny_loadPart (k _ _ hC) (wpAny_pure q))
  ne := fun h tp dd its n sl X htp => by
    obtain ⟨_, _, _, _, _, _, _, _, _, _, _, _, _, _, _, _, _, hC, _⟩ := exc_obj X hq
    refine Bool.eq_false_iff.mpr fun q => ?_
    have e2 : C = tp := Value.ref.inj (beq_iff_eq.mp q)
    subst e2
    have z : Value.type "type" = Value.type "tuple" := Option.some.inj (congrArg (Option.map Obj.cls) (hC.symm.trans htp))
    exact absurd (Value.type.inj z) (by decide)
  ca := fun X ⟨oe, he, hc⟩ k => exc_class X c he hc k
end
section
variable {X : Cx}

theorem call_isiX : CallR X (.builtin "isinstance") (fun xs H Q => ∃ (e C : Addr) (c : V) (u : Value) (b : Bool), xs = [.ref e, c] ∧ H e = some (xO e (.ref C)) ∧ Exc X.K C ∧ ExcAt X.K C ∧ clsV c = some u ∧ PySem.W.kitOne X.K (.ref C) u = some b ∧ Q (.bl b) H) := by
  intro pins s σ H xs us Q I r h
  obtain ⟨e, C, c, u, b, rfl, he, hq, ha, rc, ek, q⟩ := h
  obtain ⟨v, w, rfl, rv, rw'⟩ := vals2 r
  have eu : w = u := clsV_rel rc rw'
  subst eu
  cases rv
  obtain ⟨p, _, _⟩ := (show ObjOk X.prog X.w H s.heap e (xO e (.ref C)) from I.hok e _ he)
  exact PySem.W.kia_one (kitx_exc hq ha) I.kIn p ek (fun z => nomatch z) fun tk => ⟨.bl b, H, I.tok tk, rfl, q⟩
theorem vals_refs : ∀ {cs : List Addr} {us : List Value}, Vals (cs.map V.ref) us → us = cs.map Value.ref
  | [], _, .nil => rfl
  | a :: l, _, .cons r1 r2 => by
    have e1 := (show _ = Value.ref a from r1)
    rw [List.map_cons, ← vals_refs r2, e1]

theorem call_isiXT : CallR X (.builtin "isinstance") (fun xs H Q => ∃ (e C tp : Addr) (cs : List Addr) (b : Bool), xs = [.ref e, .ref tp] ∧ H e = some (xO e (.ref C)) ∧ Exc X.K C ∧ ExcAt X.K C ∧ H tp = some (.tup (cs.map V.ref)) ∧ PySem.W.kitAny X.K (.ref C) (cs.map Value.ref) = some b ∧ Q (.bl b) H) := by
  intro pins s σ H xs us Q I r h
  obtain ⟨e, C, tp, cs, b, rfl, he, hq, ha, ht, ek, q⟩ := h
  obtain ⟨v, w, rfl, rv, rw'⟩ := vals2 r
  cases rv
  cases rw'
  obtain ⟨p, _, _⟩ := (show ObjOk X.prog X.w H s.heap e (xO e (.ref C)) from I.hok e _ he)
  obtain ⟨_, its, rs, o, ho, hc, n, hd⟩ := (show ObjOk X.prog X.w H s.heap tp (.tup (cs.map V.ref)) from I.hok tp _ ht)
  have ei : its = cs.map Value.ref := vals_refs rs
  subst ei
  obtain ⟨oc, odd, odt, osl⟩ := o
  cases hc
  cases hd
  exact PySem.W.kia_tup (kitx_exc hq ha) I.kIn p ho ek (fun z => nomatch z) fun tk => ⟨.bl b, H, I.tok tk, rfl, q⟩
theorem call_isiXk (K : PySem.W.Frag) (hK : X.K = K) : CallR X (.builtin "isinstance") (fun xs H Q => ∃ (e C : Addr) (c : V) (u : Value) (b : Bool), xs = [.ref e, c] ∧ H e = some (xO e (.ref C)) ∧ Exc K C ∧ ExcAt K C ∧ clsV c = some u ∧ PySem.W.kitOne K (.ref C) u = some b ∧ Q (.bl b) H) := by
  subst hK
  exact call_isiX
theorem call_isiXTk (K : PySem.W.Frag) (hK : X.K = K) : CallR X (.builtin "isinstance") (fun xs H Q => ∃ (e C tp : Addr) (cs : List Addr) (b : Bool), xs = [.ref e, .ref tp] ∧ H e = some (xO e (.ref C)) ∧ Exc K C ∧ ExcAt K C ∧ H tp = some (.tup (cs.map V.ref)) ∧ PySem.W.kitAny K (.ref C) (cs.map Value.ref) = some b ∧ Q (.bl b) H) := by
  subst hK
  exact call_isiXT
end
end L2


set_option linter.all false
set_option maxRecDepth 100000
set_option maxHeartbeats 4000000
namespace L2
open PySem PySem.Spec PyProof.Rows
section
variable {X : Cx} (K : PySem.W.Frag) (hK : X.K = K)
include hK
theorem ix_listK : IxR X (rIxL K) := by subst hK; exact ix_list
theorem ix_tupK : IxR X (rIxT K) := by subst hK; exact ix_tup
theorem sl_listK : SlR X (rSlL K) := by subst hK; exact sl_list
theorem call_len_seqK : CallR X (.builtin "len") (fun xs H Q => ∃ p ys, xs = [.ref p] ∧ (SqL K H p ys ∨ SqT K H p ys) ∧ Q (.int ys.length) H) := by subst hK; exact call_len_seq
theorem call_list_ofK : CallR X (.type "list") (fun xs H Q => ∃ p ys, xs = [.ref p] ∧ (SqL K H p ys ∨ SqT K H p ys) ∧ ∀ l, H l = none → Q (.ref l) (upd H l (.lst ys))) := by subst hK; exact call_list_of
theorem call_tuple_ofK : CallR X (.type "tuple") (fun xs H Q => ∃ p ys, xs = [.ref p] ∧ ((SqL K H p ys ∧ ∀ l, H l = none → Q (.ref l) (upd H l (.tup ys))) ∨ (SqT K H p ys ∧ Q (.ref p) H))) := by subst hK; exact call_tuple_of
theorem call_allK (hc : X.calm = true) : CallR X (.builtin "all") (fun xs H Q => ∃ (p : Addr) (bs : List Bool), xs = [.ref p] ∧ SqL K H p (bs.map V.bl) ∧ Q (.bl (bs.all id)) H) := by subst hK; exact call_all hc
theorem call_isiK : CallR X (.builtin "isinstance") (fun xs H Q => ∃ x c t u b, xs = [x, c] ∧ TyOf K H x t ∧ clsV c = some u ∧ PySem.W.kitOne K t u = some b ∧ Q (.bl b) H) := by subst hK; exact call_isi
theorem mt_joinK : MtR X "str.join" (rJoin K) := by subst hK; exact mt_join
theorem pi_listK {tg l : Expr} {tl : TE} (hl : PE X l tl) : PI X tg l (iList K tl) := by subst hK; exact pi_list hl
theorem pi_tupK {tg l : Expr} {tl : TE} (hl : PE X l tl) : PI X tg l (iTup K tl) := by subst hK; exact pi_tup hl
theorem pt_truthK {a : Expr} {ta : TE} (ha : PE X a ta) (he : ∀ whole, isTrue a X.env whole = (do let v ← whole; standAt a.pos; holding [v] (truthy v))) :
    PT X a (fun σ H Q => ta σ H fun x H' => ∃ k, TruV K x H' k ∧ Q k H') := by subst hK; exact pt_truth ha he
variable {o e : Expr} {es : List Expr} {to : TE} {t : TA} {name : Str} {apos cpos : Pos} {T id : String} {r : V → List V → Hp → VK → Prop}
theorem pe_bm0K (pa : PlainAttrs T) (slot : Slot T name id) (hty : typeOf (.builtin id) = pure (.type "method_descriptor")) (hm : MtR X id r) (ho : PE X o to)
    (hbase : attributeBase o name X.env (eval o X.env) = eval o X.env := by rfl) (hline : (apos.endLine == cpos.line) = true := by rfl) : PE X (.Call (.Attribute o name apos) [] [] cpos) (tBM0 K T r to) := by
  subst hK; exact pe_bm0 pa slot hty hm ho hbase hline
theorem pe_bmK (pa : PlainAttrs T) (slot : Slot T name id) (hty : typeOf (.builtin id) = pure (.type "method_descriptor")) (hm : MtR X id r) (ho : PE X o to) (ha : PA X (e :: es) t)
    (hbase : attributeBase o name X.env (eval o X.env) = eval o X.env := by rfl)
    (hfew : ((backTo cpos (starEach (e :: es) X.env)).all (fun x => !x.1) && (backToKw cpos (keywordEach [] X.env)).all (fun x => x.1.isSome)
      && decide ((e :: es).length + ([] : List Keyword).length + (if ([] : List Keyword).isEmpty then 0 else 1) < 30)) = true := by rfl)
    (hline : (apos.endLine == cpos.line) = true := by rfl) (hs : starEach (e :: es) X.env = (false, eval e X.env) :: starEach es X.env := by rfl) (hplain : (backTo cpos (starEach es X.env)).any (·.1) = false := by rfl) :
    PE X (.Call (.Attribute o name apos) (e :: es) [] cpos) (tBM K T r to t) := by
  subst hK; exact pe_bm pa slot hty hm ho ha hbase hfew hline hs hplain
end
end L2


set_option linter.all false
set_option maxRecDepth 100000
set_option maxHeartbeats 4000000
namespace L2
open PySem PySem.Spec PyProof.Rows
section
variable {P : Program} {w : World} {K : PySem.W.Frag} {mg : Str → Option Value} {base : Heap}

theorem Fun.okX {x qual : Str} {st : Stmt} {f : Addr} {fd : FuncData} {N ps : List Str} {k : Nat} {sp : Sp} (F : Fun K x qual st f fd) (S : FnScope N ps (defScope st)) (len : ∀ vs H Q E, sp vs H Q E → vs.length = ps.length)
    (hbody : ∀ (cdv : Value) (A : Around) (outer : List Env) (s : Shared) (H : Hp) (vs : List V) (Q : VK) (E : XK), Room k (A.deeper (envOfC qual (defScope st) s.heap.objs.size f cdv)) → sp vs H Q E →
      ∃ t, PSs (cxOf (CXo P w) P w K mg base N qual (defScope st) f cdv A outer s H E) (defBody st) t ∧ t { nx := fun _ H' => Q .non H', rt := Q } (start N vs) H) : FnOk P w K mg base (CXo P w) (k + 1) f fd ps sp := by
  obtain ⟨oc, od, kV, doc, pm, an, cdv, ct, osl, rfl, lk, hcd⟩ := F.ex
  exact fn_of lk hcd S len fun A outer s H vs Q E hr hsp => hbody cdv A outer s H vs Q E hr hsp
end

structure Used (P : Program) (w : World) (K : PySem.W.Frag) (mg : Str → Option Value) (CX : CXT) (k : Nat) (x : Str) (ps : List Str) (sp : Sp) : Prop where
  ok : ∃ f fd, (∀ base, FnOk P w K mg base CX k f fd ps sp) ∧ mg x = some (.ref f) ∧ PySem.W.keepIn K (.ref f) = true ∧ Binds K fd ps []

theorem Same.upd {H : Hp} {p : Addr} {o : HO} (h : H p = none) : Same H (upd H p o) := fun b u e => by rw [upd_ne (ne_of_none e h)]; exact e

theorem Same.put {H H' : Hp} {p : Addr} {o : HO} (s : Same H H') (h : H p = none) : Same H (L2.upd H' p o) := fun b u e => by rw [upd_ne (ne_of_none e h)]; exact s b u e
def del (H : Hp) (l : Addr) : Hp := fun b => if b = l then none else H b
theorem del_ne {H : Hp} {l b : Addr} (h : b ≠ l) : del H l b = H b := if_neg h
theorem del_self {H : Hp} {l : Addr} : del H l l = none := if_pos rfl
theorem del_same (H : Hp) (l : Addr) : Same (del H l) H := fun b o e => by
  unfold del at e
  split at e
  · cases e
  · exact e
theorem Same.del {H H' : Hp} (s : Same H H') (l : Addr) : Same (L2.del H l) (L2.del H' l) := fun b o e => by
  unfold L2.del at e ⊢
  split at e
  · cases e
  · rw [if_neg (by assumption)]; exact s b o e
theorem Same.to_del {H H' : Hp} {l : Addr} (s : Same H H') (h : H l = none) : Same H (L2.del H' l) := fun b o e => by
  rw [del_ne (ne_of_none e h)]
  exact s b o e
theorem del_upd {H : Hp} {l : Addr} {o : HO} : L2.del (L2.upd H l o) l = L2.del H l := by
  funext b
  unfold L2.del L2.upd
  split <;> rfl

theorem comp_by {J : It} {g : TG} {tc : TT} {te : TE} {Q : VK} {l : Addr} {τ : St} {H1 : Hp} (n : Nat) (W : Nat → List V → St → Hp → Prop) (h0 : W 0 [] τ (upd H1 l (.lst [])))
    (hgo : ∀ i ys τ H (N : List V → St → Hp → Prop), i < n → W i ys τ H → (∀ ys τ H, W (i + 1) ys τ H → N ys τ H) → J.go i H ∧ ∀ x H3, J.yld i H x H3 → g x τ H3 fun τ4 H4 => tc τ4 H4 fun b H5 =>
      if b = true then te τ4 H5 fun y H6 => H6 l = some (.lst ys) ∧ ys.length < sizeLine ∧ N (ys ++ [y]) τ4 (upd H6 l (.lst (ys ++ [y]))) else N ys τ4 H5)
    (hst : ∀ ys τ H, W n ys τ H → J.stop n H ∧ Q (.ref l) H) : CompOk J g tc te Q l τ H1 := by
  refine ⟨fun i m ys τ H => m = n - i ∧ i ≤ n ∧ W i ys τ H, ⟨n, by simp, Nat.zero_le _, h0⟩, ?_⟩
  rintro i m ys τ H ⟨rfl, hi, w⟩
  by_cases hlt : i < n
  · exact .inr (hgo i ys τ H (fun ys τ H => ∃ m', m' < n - i ∧ m' = n - (i + 1) ∧ i + 1 ≤ n ∧ W (i + 1) ys τ H) hlt w fun ys τ H h => ⟨n - (i + 1), by omega, rfl, hlt, h⟩)
  · have ei : i = n := by omega
    subst ei
    exact .inl (hst ys τ H w)

def GivesN (J : It) (n : Nat) (H : Hp) (item : Nat → V → Prop) : Prop := ∀ i H', Same H H' → (i < n → J.go i H' ∧ ∀ x H3, J.yld i H' x H3 → H3 = H' ∧ item i x) ∧ J.stop n H'
theorem gives_list {K : PySem.W.Frag} {a : Addr} {xs : List V} {H : Hp} (h : SqL K H a xs) : GivesN (Itl K a) xs.length H fun i x => xs[i]? = some x := fun i H' s => by
  have h' := s.seq h
  exact ⟨fun hi => ⟨⟨xs, xs[i], h', by simp [hi]⟩, fun x H3 y => ⟨y.1, y.2 xs h'⟩⟩, ⟨xs, h', Nat.le_refl _⟩⟩
theorem Same.seqT {K : PySem.W.Frag} {H H' : Hp} {a : Addr} {xs : List V} (e : Same H H') (h : SqT K H a xs) : SqT K H' a xs := by
  rcases h with (h | ⟨o, h⟩) | h
  · exact .inl (.inl (e _ _ h))
  · exact .inl (.inr ⟨o, e _ _ h⟩)
  · exact .inr h
theorem gives_tup {K : PySem.W.Frag} {a : Addr} {xs : List V} {H : Hp} (h : SqT K H a xs) : GivesN (Itt K a) xs.length H fun i x => xs[i]? = some x := fun i H' s => by
  have h' := s.seqT h
  exact ⟨fun hi => ⟨⟨xs, xs[i], h', by simp [hi]⟩, fun x H3 y => ⟨y.1, y.2 xs h'⟩⟩, ⟨xs, h', Nat.le_refl _⟩⟩
theorem gives_range {lo : Int} {n : Nat} {H : Hp} : GivesN (Itr lo n) n H fun i x => x = .int (lo + i) := fun i H' s =>
  ⟨fun hi => ⟨hi, fun x H3 y => y⟩, Nat.le_refl _⟩
theorem comp_items {J : It} {n : Nat} {item : Nat → V → Prop} {te : TE} {Q : VK} {H : Hp} {l : Addr} {τ : St} (j0 : Nat) (Py : Nat → V → Hp → Prop) (hJ : GivesN J n H item) (mono : ∀ k y H H', Same H H' → Py k y H → Py k y H') (hp : Plain H)
    (hl : H l = none) (hτ : j0 < τ.length) (hz : n ≤ sizeLine) (keep : St → Prop) (hk0 : keep τ) (hks : ∀ τ' v, keep τ' → keep (τ'.set j0 v))
    (ht : ∀ (τ' : St) (k : Nat) (x : V) (H' : Hp) (R : VK), keep τ' → τ'[j0]? = some (some x) → item k x → k < n → Same H H' → Plain H' → H' l ≠ none → (∀ y H6, Same H' H6 → Plain H6 → Py k y (del H6 l) → R y H6) → te τ' H' R)
    (hq : ∀ ys H', ys.length = n → (∀ k y, ys[k]? = some y → Py k y (del H' l)) → Same H H' → Plain H' → H' l = some (.lst ys) → Q (.ref l) H') : CompOk J (gName j0) tYes te Q l τ H := by
  refine ⟨fun i m ys τ' H2 => m = n - i ∧ i ≤ n ∧ ys.length = i ∧ (∀ k y, ys[k]? = some y → Py k y (del H2 l)) ∧ j0 < τ'.length ∧ keep τ' ∧ Same H H2 ∧ Plain H2 ∧ H2 l = some (.lst ys),
    ⟨n, by simp, Nat.zero_le _, rfl, fun k y e => by simp at e, hτ, hk0, Same.upd hl, hp.upd rfl, upd_same⟩, ?_⟩
  rintro i m ys τ' H2 ⟨rfl, hi, hy, hP, hτ', hk', hs, hpl, hll⟩
  obtain ⟨hgo, hst⟩ := hJ i H2 hs
  by_cases hlt : i < n
  · obtain ⟨h1, h2⟩ := hgo hlt
    refine .inr ⟨h1, fun x H3 hyl => ?_⟩
    obtain ⟨eH, hit⟩ := h2 x H3 hyl
    subst eH
    show te _ _ _
    refine ht _ i x _ _ (hks _ _ hk') ?_ hit hlt hs hpl (by rw [hll]; intro z; cases z) fun y H6 s6 p6 py => ?_
    · rw [List.getElem?_set_self hτ']
    · have hl6 : H6 l = some (.lst ys) := s6 _ _ hll
      refine ⟨hl6, by omega, n - (i + 1), by omega, rfl, hlt, by simp [hy], fun k z e => ?_, by rw [List.length_set]; exact hτ', hks _ _ hk', (hs.trans s6).put hl, p6.upd rfl, upd_same⟩
      rw [del_upd]
      by_cases hkl : k < ys.length
      · rw [List.getElem?_append_left hkl] at e
        exact mono k z _ _ (s6.del l) (hP k z e)
      · rw [List.getElem?_append_right (by omega)] at e
        have hk0 : k - ys.length = 0 := by
          cases hh : k - ys.length with
          | zero => rfl
          | succ j => rw [hh] at e; simp at e
        rw [hk0] at e
        have e2 : y = z := by simpa using e
        have e3 : k = i := by omega
        subst e2 e3
        exact py
  · have ei : i = n := by omega
    subst ei
    exact .inl ⟨hst, hq ys H2 hy hP hs hpl hll⟩

end L2


set_option linter.all false
set_option maxRecDepth 100000
set_option maxHeartbeats 4000000
namespace L2
open PySem PySem.Spec PyProof.Rows
inductive D where
  | non | bl (b : Bool) | int (i : Int) | str (x : Str) | lst (xs : List D) | tup (xs : List D) | oth
mutual
def eqD : D → D → Bool
  | .non, .non => true
  | .bl a, .bl b => a == b
  | .bl a, .int b => (if a then (1 : Int) else 0) == b
  | .int a, .bl b => a == (if b then (1 : Int) else 0)
  | .int a, .int b => a == b
  | .str a, .str b => a == b
  | .lst xs, .lst ys => eqDs xs ys
  | .tup xs, .tup ys => eqDs xs ys
  | _, _ => false
def eqDs : List D → List D → Bool
  | [], [] => true
  | x :: xs, y :: ys => eqD x y && eqDs xs ys
  | _, _ => false
end
mutual
def D.dep : D → Nat
  | .lst xs => depS xs + 1
  | .tup xs => depS xs + 1
  | _ => 0
def depS : List D → Nat
  | [] => 0
  | x :: xs => max x.dep (depS xs)
end
mutual
def Den (H : Hp) : V → D → Prop
  | v, .non => v = .non
  | v, .bl b => v = .bl b
  | v, .int i => v = .int i
  | v, .str x => v = .str x
  | v, .lst ds => ∃ a xs, v = .ref a ∧ Rd H a (.lst xs) ∧ Dens H xs ds
  | v, .tup ds => ∃ a xs, v = .ref a ∧ H a = some (.tup xs) ∧ Dens H xs ds
  | v, .oth => ∃ a kvs, v = .ref a ∧ H a = some (.dK kvs)
def Dens (H : Hp) : List V → List D → Prop
  | [], [] => True
  | v :: vs, d :: ds => Den H v d ∧ Dens H vs ds
  | _, _ => False
end
mutual

def D.ok : D → Bool
  | .lst xs => okS xs
  | .tup xs => okS xs
  | .oth => false
  | _ => true
def okS : List D → Bool
  | [] => true
  | x :: xs => x.ok && okS xs
end
theorem okS_mem : ∀ {xs : List D} {d : D}, okS xs = true → d ∈ xs → d.ok = true
  | x :: xs, d, h, hd => by
    unfold okS at h
    rw [Bool.and_eq_true] at h
    rcases List.mem_cons.mp hd with rfl | hd
    · exact h.1
    · exact okS_mem h.2 hd
theorem okS_of : ∀ {xs : List D}, (∀ d ∈ xs, d.ok = true) → okS xs = true
  | [], _ => by unfold okS; rfl
  | x :: xs, h => by unfold okS; rw [h x List.mem_cons_self, okS_of fun d hd => h d (List.mem_cons_of_mem _ hd)]; rfl
theorem depS_le : ∀ {xs : List D} {d : D}, d ∈ xs → d.dep ≤ depS xs
  | x :: xs, d, h => by
    unfold depS
    rcases List.mem_cons.mp h with rfl | h
    · exact Nat.le_max_left _ _
    · exact Nat.le_trans (depS_le h) (Nat.le_max_right _ _)
mutual
theorem eqD_refl : ∀ d : D, d.ok = true → eqD d d = true
  | .non, _ => by unfold eqD; rfl
  | .bl b, _ => by unfold eqD; exact beq_self_eq_true b
  | .int i, _ => by unfold eqD; exact beq_self_eq_true i
  | .str x, _ => by unfold eqD; exact beq_self_eq_true x
  | .lst xs, h => by unfold eqD; unfold D.ok at h; exact eqDs_refl xs h
  | .tup xs, h => by unfold eqD; unfold D.ok at h; exact eqDs_refl xs h
  | .oth, h => by unfold D.ok at h; cases h
theorem eqDs_refl : ∀ ds : List D, okS ds = true → eqDs ds ds = true
  | [], _ => by unfold eqDs; rfl
  | d :: ds, h => by
    unfold okS at h
    rw [Bool.and_eq_true] at h
    unfold eqDs
    rw [eqD_refl d h.1, eqDs_refl ds h.2]
    rfl
end
theorem eqD_lst (xs ys : List D) : eqD (.lst xs) (.lst ys) = eqDs xs ys := by unfold eqD; rfl
theorem eqD_tup (xs ys : List D) : eqD (.tup xs) (.tup ys) = eqDs xs ys := by unfold eqD; rfl
theorem eqDs_len : ∀ {xs ys : List D}, xs.length ≠ ys.length → eqDs xs ys = false
  | [], [], h => absurd rfl h
  | [], _ :: _, _ => by unfold eqDs; rfl
  | _ :: _, [], _ => by unfold eqDs; rfl
  | x :: xs, y :: ys, h => by
    unfold eqDs
    rw [eqDs_len (xs := xs) (ys := ys) fun e => h (by rw [List.length_cons, List.length_cons, e]), Bool.and_false]
theorem eqDs_all : ∀ {xs ys : List D}, xs.length = ys.length → eqDs xs ys = (List.range xs.length).all fun j => eqD (xs.getD j .non) (ys.getD j .non)
  | [], [], _ => by unfold eqDs; rfl
  | [], _ :: _, h => by cases h
  | _ :: _, [], h => by cases h
  | x :: xs, y :: ys, h => by
    unfold eqDs
    rw [eqDs_all (xs := xs) (ys := ys) (Nat.succ.inj h), List.length_cons, List.range_succ_eq_map, List.all_cons, List.all_map]
    rfl
section
variable {H H' : Hp}
theorem Dens.len : ∀ {xs : List V} {ds : List D}, Dens H xs ds → xs.length = ds.length
  | [], [], _ => rfl
  | [], _ :: _, h => by unfold Dens at h; exact h.elim
  | _ :: _, [], h => by unfold Dens at h; exact h.elim
  | v :: vs, d :: ds, h => by
    unfold Dens at h
    rw [List.length_cons, List.length_cons, Dens.len h.2]
theorem Dens.get : ∀ {xs : List V} {ds : List D} {i : Nat} {v : V}, Dens H xs ds → xs[i]? = some v → ∃ d, ds[i]? = some d ∧ Den H v d
  | [], _, i, v, _, e => by simp at e
  | _ :: _, [], _, _, h, _ => by unfold Dens at h; exact h.elim
  | x :: xs, d :: ds, 0, v, h, e => by
    unfold Dens at h
    simp at e
    subst e
    exact ⟨d, rfl, h.1⟩
  | x :: xs, d :: ds, i + 1, v, h, e => by
    unfold Dens at h
    exact Dens.get (i := i) h.2 (by simpa using e)
theorem Dens.getD : ∀ {xs : List V} {ds : List D} {i : Nat} {d : D}, Dens H xs ds → ds[i]? = some d → ∃ v, xs[i]? = some v ∧ Den H v d
  | _, [], i, v, _, e => by simp at e
  | [], _ :: _, _, _, h, _ => by unfold Dens at h; exact h.elim
  | x :: xs, d :: ds, 0, v, h, e => by
    unfold Dens at h
    simp at e
    subst e
    exact ⟨x, rfl, h.1⟩
  | x :: xs, d :: ds, i + 1, v, h, e => by
    unfold Dens at h
    exact Dens.getD (i := i) h.2 (by simpa using e)
theorem Dens.nil : Dens H [] [] := by unfold Dens; trivial
theorem Dens.cons {v : V} {vs : List V} {d : D} {ds : List D} (h : Den H v d) (hs : Dens H vs ds) : Dens H (v :: vs) (d :: ds) := by unfold Dens; exact ⟨h, hs⟩
theorem Dens.append : ∀ {xs ys : List V} {ds es : List D}, Dens H xs ds → Dens H ys es → Dens H (xs ++ ys) (ds ++ es)
  | [], _, [], _, _, h => h
  | [], _, _ :: _, _, h, _ => by unfold Dens at h; exact h.elim
  | _ :: _, _, [], _, h, _ => by unfold Dens at h; exact h.elim
  | x :: xs, ys, d :: ds, es, h, h2 => by
    unfold Dens at h
    exact .cons h.1 (Dens.append h.2 h2)
theorem Dens.of_all : ∀ {xs : List V} {ds : List D}, xs.length = ds.length → (∀ (i : Nat) (v : V) (d : D), xs[i]? = some v → ds[i]? = some d → Den H v d) → Dens H xs ds
  | [], [], _, _ => .nil
  | [], _ :: _, h, _ => by cases h
  | _ :: _, [], h, _ => by cases h
  | x :: xs, d :: ds, h, k => .cons (k 0 x d rfl rfl) (Dens.of_all (Nat.succ.inj h) fun i v e h1 h2 => k (i + 1) v e (by simpa using h1) (by simpa using h2))
theorem Dens.take {xs : List V} {ds : List D} (h : Dens H xs ds) (n : Nat) : Dens H (xs.take n) (ds.take n) := by
  have hl := h.len
  refine .of_all (by rw [List.length_take, List.length_take, hl]) fun i v d h1 h2 => ?_
  rw [List.getElem?_take] at h1 h2
  split at h1
  · rw [if_pos (by assumption)] at h2
    obtain ⟨e, he, hd⟩ := h.get h1
    rw [h2] at he; cases he
    exact hd
  · cases h1
theorem Dens.drop {xs : List V} {ds : List D} (h : Dens H xs ds) (n : Nat) : Dens H (xs.drop n) (ds.drop n) := by
  have hl := h.len
  refine .of_all (by rw [List.length_drop, List.length_drop, hl]) fun i v d h1 h2 => ?_
  rw [List.getElem?_drop] at h1 h2
  obtain ⟨e, he, hd⟩ := h.get h1
  rw [h2] at he; cases he
  exact hd
theorem Den.lst {a : Addr} {xs : List V} {ds : List D} (h : Rd H a (.lst xs)) (hs : Dens H xs ds) : Den H (.ref a) (.lst ds) := by unfold Den; exact ⟨a, xs, rfl, h, hs⟩
theorem Den.tup {a : Addr} {xs : List V} {ds : List D} (h : H a = some (.tup xs)) (hs : Dens H xs ds) : Den H (.ref a) (.tup ds) := by unfold Den; exact ⟨a, xs, rfl, h, hs⟩
theorem Den.int (i : Int) : Den H (.int i) (.int i) := by unfold Den; rfl
theorem Den.str (x : Str) : Den H (.str x) (.str x) := by unfold Den; rfl
theorem Den.bl (b : Bool) : Den H (.bl b) (.bl b) := by unfold Den; rfl
theorem Den.non : Den H .non .non := by unfold Den; rfl
theorem Den.to_lst {v : V} {ds : List D} (h : Den H v (.lst ds)) : ∃ a xs, v = .ref a ∧ Rd H a (.lst xs) ∧ Dens H xs ds := by unfold Den at h; exact h
theorem Den.to_tup {v : V} {ds : List D} (h : Den H v (.tup ds)) : ∃ a xs, v = .ref a ∧ H a = some (.tup xs) ∧ Dens H xs ds := by unfold Den at h; exact h
theorem Den.to_int {v : V} {i : Int} (h : Den H v (.int i)) : v = .int i := by unfold Den at h; exact h
theorem Den.to_str {v : V} {i : Str} (h : Den H v (.str i)) : v = .str i := by unfold Den at h; exact h
theorem Dens.ints : ∀ (ns : List Int), Dens H (ns.map V.int) (ns.map D.int)
  | [] => .nil
  | n :: ns => .cons (.int n) (Dens.ints ns)
theorem Dens.strs : ∀ (ns : List Str), Dens H (ns.map V.str) (ns.map D.str)
  | [] => .nil
  | n :: ns => .cons (.str n) (Dens.strs ns)
theorem Same.rd {a : Addr} {u : HO} (e : Same H H') (h : Rd H a u) : Rd H' a u := by
  rcases h with h | ⟨o, h⟩
  · exact .inl (e _ _ h)
  · exact .inr ⟨o, e _ _ h⟩
theorem Rd.inj {a : Addr} {xs ys : List V} (h : Rd H a (.lst xs)) (h' : Rd H a (.lst ys)) : xs = ys := by
  rcases h with h | ⟨o, h⟩ <;> rcases h' with h' | ⟨o', h'⟩ <;> rw [h] at h' <;> cases h' <;> rfl
mutual
theorem Den.same (e : Same H H') : ∀ {v : V} {d : D}, Den H v d → Den H' v d
  | _, .non, h => by unfold Den at h ⊢; exact h
  | _, .bl _, h => by unfold Den at h ⊢; exact h
  | _, .int _, h => by unfold Den at h ⊢; exact h
  | _, .str _, h => by unfold Den at h ⊢; exact h
  | _, .lst ds, h => by
    unfold Den at h ⊢
    obtain ⟨a, xs, e1, e2, e3⟩ := h
    exact ⟨a, xs, e1, e.rd e2, Dens.same e e3⟩
  | _, .tup ds, h => by
    unfold Den at h ⊢
    obtain ⟨a, xs, e1, e2, e3⟩ := h
    exact ⟨a, xs, e1, e _ _ e2, Dens.same e e3⟩
  | _, .oth, h => by
    unfold Den at h ⊢
    obtain ⟨a, kvs, e1, e2⟩ := h
    exact ⟨a, kvs, e1, e _ _ e2⟩
theorem Dens.same (e : Same H H') : ∀ {vs : List V} {ds : List D}, Dens H vs ds → Dens H' vs ds
  | [], [], h => .nil
  | [], _ :: _, h => by unfold Dens at h; exact h.elim
  | _ :: _, [], h => by unfold Dens at h; exact h.elim
  | v :: vs, d :: ds, h => by
    unfold Dens at h
    exact .cons (Den.same e h.1) (Dens.same e h.2)
end
end
section
variable {X : Cx} {pins : List (Addr × Obj)} {σ : St} {H : Hp} {s : Shared}
mutual
theorem Den.uniq : ∀ {v : V} {d d' : D}, Den H v d → Den H v d' → d = d'
  | v, .non, d', h, h' => by
    unfold Den at h; subst h
    cases d' with
    | non => rfl
    | lst es => unfold Den at h'; obtain ⟨_, _, z, _⟩ := h'; cases z
    | tup es => unfold Den at h'; obtain ⟨_, _, z, _⟩ := h'; cases z
    | oth => unfold Den at h'; obtain ⟨_, _, z, _⟩ := h'; cases z
    | _ => unfold Den at h'; cases h'
  | v, .bl b, d', h, h' => by
    unfold Den at h; subst h
    cases d' with
    | bl c => unfold Den at h'; cases h'; rfl
    | lst es => unfold Den at h'; obtain ⟨_, _, z, _⟩ := h'; cases z
    | tup es => unfold Den at h'; obtain ⟨_, _, z, _⟩ := h'; cases z
    | oth => unfold Den at h'; obtain ⟨_, _, z, _⟩ := h'; cases z
    | _ => unfold Den at h'; cases h'
  | v, .int b, d', h, h' => by
    unfold Den at h; subst h
    cases d' with
    | int c => unfold Den at h'; cases h'; rfl
    | lst es => unfold Den at h'; obtain ⟨_, _, z, _⟩ := h'; cases z
    | tup es => unfold Den at h'; obtain ⟨_, _, z, _⟩ := h'; cases z
    | oth => unfold Den at h'; obtain ⟨_, _, z, _⟩ := h'; cases z
    | _ => unfold Den at h'; cases h'
  | v, .str b, d', h, h' => by
    unfold Den at h; subst h
    cases d' with
    | str c => unfold Den at h'; cases h'; rfl
    | lst es => unfold Den at h'; obtain ⟨_, _, z, _⟩ := h'; cases z
    | tup es => unfold Den at h'; obtain ⟨_, _, z, _⟩ := h'; cases z
    | oth => unfold Den at h'; obtain ⟨_, _, z, _⟩ := h'; cases z
    | _ => unfold Den at h'; cases h'
  | v, .lst ds, d', h, h' => by
    obtain ⟨a, xs, rfl, e2, e3⟩ := h.to_lst
    cases d' with
    | lst es =>
      obtain ⟨b, ys, z, f2, f3⟩ := h'.to_lst
      cases z
      have := e2.inj f2
      subst this
      rw [Dens.uniq e3 f3]
    | tup es =>
      obtain ⟨b, ys, z, f2, f3⟩ := h'.to_tup
      cases z
      rcases e2 with e2 | ⟨o, e2⟩ <;> rw [e2] at f2 <;> cases f2
    | oth =>
      unfold Den at h'
      obtain ⟨b, ys, z, f2⟩ := h'
      cases z
      rcases e2 with e2 | ⟨o, e2⟩ <;> rw [e2] at f2 <;> cases f2
    | _ => unfold Den at h'; cases h'
  | v, .tup ds, d', h, h' => by
    obtain ⟨a, xs, rfl, e2, e3⟩ := h.to_tup
    cases d' with
    | tup es =>
      obtain ⟨b, ys, z, f2, f3⟩ := h'.to_tup
      cases z
      rw [e2] at f2
      cases f2
      rw [Dens.uniq e3 f3]
    | lst es =>
      obtain ⟨b, ys, z, f2, f3⟩ := h'.to_lst
      cases z
      rcases f2 with f2 | ⟨o, f2⟩ <;> rw [e2] at f2 <;> cases f2
    | oth =>
      unfold Den at h'
      obtain ⟨b, ys, z, f2⟩ := h'
      cases z
      rw [e2] at f2; cases f2
    | _ => unfold Den at h'; cases h'
  | v, .oth, d', h, h' => by
    unfold Den at h
    obtain ⟨a, kvs, rfl, e2⟩ := h
    cases d' with
    | oth => rfl
    | lst es =>
      obtain ⟨b, ys, z, f2, f3⟩ := h'.to_lst
      cases z
      rcases f2 with f2 | ⟨o, f2⟩ <;> rw [e2] at f2 <;> cases f2
    | tup es =>
      obtain ⟨b, ys, z, f2, f3⟩ := h'.to_tup
      cases z
      rw [e2] at f2; cases f2
    | _ => unfold Den at h'; cases h'
theorem Dens.uniq : ∀ {vs : List V} {ds es : List D}, Dens H vs ds → Dens H vs es → ds = es
  | [], [], [], _, _ => rfl
  | [], _ :: _, _, h, _ => by unfold Dens at h; exact h.elim
  | [], _, _ :: _, _, h => by unfold Dens at h; exact h.elim
  | _ :: _, [], _, h, _ => by unfold Dens at h; exact h.elim
  | _ :: _, _, [], _, h => by unfold Dens at h; exact h.elim
  | v :: vs, d :: ds, e :: es, h, h' => by
    unfold Dens at h h'
    rw [Den.uniq h.1 h'.1, Dens.uniq h.2 h'.2]
end

def tyD : D → String
  | .non => "NoneType"
  | .bl _ => "bool"
  | .int _ => "int"
  | .str _ => "str"
  | .lst _ => "list"
  | .tup _ => "tuple"
  | .oth => "dict"
theorem Den.ty {K : PySem.W.Frag} : ∀ {v : V} {d : D}, Den H v d → TyOf K H v (.type (tyD d))
  | _, .non, h => by unfold Den at h; subst h; exact .non
  | _, .bl b, h => by unfold Den at h; subst h; exact .bl b
  | _, .int b, h => by unfold Den at h; subst h; exact .int b
  | _, .str b, h => by unfold Den at h; subst h; exact .str b
  | _, .lst ds, h => by
    obtain ⟨a, xs, rfl, e2 | ⟨o, e2⟩, _⟩ := h.to_lst
    · exact .lst e2
    · exact .frz e2
  | _, .tup ds, h => by
    obtain ⟨a, xs, rfl, e2, _⟩ := h.to_tup
    exact .tup e2
  | _, .oth, h => by
    unfold Den at h
    obtain ⟨a, kvs, rfl, e2⟩ := h
    exact .dK e2
theorem getD_of {ds : List D} {i : Nat} {d : D} (h : ds[i]? = some d) : ds.getD i .non = d := by
  rw [List.getD_eq_getElem?_getD, h]; rfl

structure Cmp (A : Around) (s : Shared) (x y : Value) (b : Bool) : Prop where
  eq : SeqAt.EqAt A s x y b
  rc : SeqAt.RcAt A s x y b
  ne : SeqAt.RcNeAt A s x y (!b)
theorem cmp_seq {A : Around} {xs ys : List V} {ds es : List D} {its its2 : List Value} (h1 : Dens H xs ds) (h2 : Dens H ys es) (r1 : Vals xs its) (r2 : Vals ys its2)
    (ih : ∀ (d d' : D) (v u : V) (x y : Value), d ∈ ds → d' ∈ es → Den H v d → Den H u d' → RelV v x → RelV u y → SeqAt.EqAt A s x y (eqD d d')) :
    ∀ j (q1 : j < its.toArray.size) (q2 : j < its2.toArray.size), SeqAt.EqAt A s its.toArray[j] its2.toArray[j] (eqD (ds.getD j .non) (es.getD j .non)) := by
  intro j q1 q2
  have l1 := r1.length
  have l2 := r2.length
  have q1' : j < xs.length := by rw [l1]; simpa using q1
  have q2' : j < ys.length := by rw [l2]; simpa using q2
  obtain ⟨d, hd, den⟩ := h1.get (i := j) (List.getElem?_eq_getElem q1')
  obtain ⟨d', hd', den'⟩ := h2.get (i := j) (List.getElem?_eq_getElem q2')
  obtain ⟨u, hu, ru⟩ := r1.get (List.getElem?_eq_getElem q1')
  obtain ⟨u', hu', ru'⟩ := r2.get (List.getElem?_eq_getElem q2')
  rw [getD_of hd, getD_of hd']
  have e1 : its.toArray[j] = u := by
    have : its.toArray[j]? = some u := by simpa using hu
    rw [Array.getElem?_eq_getElem q1] at this
    exact Option.some.inj this
  have e2 : its2.toArray[j] = u' := by
    have : its2.toArray[j]? = some u' := by simpa using hu'
    rw [Array.getElem?_eq_getElem q2] at this
    exact Option.some.inj this
  rw [e1, e2]
  exact ih d d' _ _ _ _ (List.mem_of_getElem? hd) (List.mem_of_getElem? hd') den den' ru ru'
theorem cmp_of_refs {A : Around} {a b : Addr} {d d' : D} {k : Bool} (hk : k = eqD d d') (hok : d.ok = true) (h1 : Den H (.ref a) d) (h2 : Den H (.ref b) d') (rc : SeqAt.RcAt A s (.ref a) (.ref b) k) (ne : SeqAt.RcNeAt A s (.ref a) (.ref b) (!k)) : Cmp A s (.ref a) (.ref b) (eqD d d') := by
  subst hk
  refine ⟨?_, rc, ne⟩
  by_cases hab : a = b
  · subst hab
    have := h1.uniq h2
    subst this
    rw [eqD_refl _ hok]
    exact .same _
  · exact .of_refs hab rc
theorem cmp_D (I : Inv X pins σ H s) : ∀ (n : Nat) (A : Around) (d d' : D) (v u : V) (x y : Value), d.ok = true → d'.ok = true → d.dep ≤ n → A.units + n < cLine → Den H v d → Den H u d' → RelV v x → RelV u y → Cmp A s x y (eqD d d') := by
  intro n
  induction n with
  | zero =>
    intro A d d' v u x y hok hok' hn hu h h' r r'
    have hu' : A.units < cLine := by omega
    cases d with
    | lst ds => unfold D.dep at hn; omega
    | tup ds => unfold D.dep at hn; omega
    | oth => unfold D.ok at hok; cases hok
    | non =>
      unfold Den at h; subst h; cases r
      cases d' with
      | non => unfold Den at h'; subst h'; cases r'; unfold eqD; exact ⟨.same _, .none_none, .none_none⟩
      | bl b => unfold Den at h'; subst h'; cases r'; unfold eqD; exact ⟨.none_bool _, .none_bool _, .none_bool _⟩
      | int b => unfold Den at h'; subst h'; obtain ⟨t, rfl⟩ := r'; unfold eqD; exact ⟨.none_int _ _, .none_int _ _, .none_int _ _⟩
      | str b => unfold Den at h'; subst h'; obtain ⟨t, rfl⟩ := r'; unfold eqD; exact ⟨.none_str _ _, .none_str _ _, .none_str _ _⟩
      | lst ds => obtain ⟨a, xs, rfl, e2, _⟩ := h'.to_lst; cases r'; obtain ⟨_, _, p, _⟩ := I.list (.inl e2); unfold eqD; exact ⟨.none_list p.isList hu', .none_list p.isList hu', .none_list p.isList hu'⟩
      | tup ds => obtain ⟨a, xs, rfl, e2, _⟩ := h'.to_tup; cases r'; obtain ⟨_, _, p, _⟩ := I.tuple (.inl (.inl e2)); unfold eqD; exact ⟨.none_tuple p hu', .none_tuple p hu', .none_tuple p hu'⟩
      | oth => unfold D.ok at hok'; cases hok'
    | bl c =>
      unfold Den at h; subst h; cases r
      cases d' with
      | non => unfold Den at h'; subst h'; cases r'; unfold eqD; exact ⟨.bool_none _, .bool_none _, .bool_none _⟩
      | bl b => unfold Den at h'; subst h'; cases r'; unfold eqD; exact ⟨.bool_bool _ _, .bool_bool _ _, .bool_bool _ _⟩
      | int b => unfold Den at h'; subst h'; obtain ⟨t, rfl⟩ := r'; unfold eqD; exact ⟨.bool_int _ _ _, .bool_int _ _ _, .bool_int _ _ _⟩
      | str b => unfold Den at h'; subst h'; obtain ⟨t, rfl⟩ := r'; unfold eqD; exact ⟨.bool_str _ _ _, .bool_str _ _ _, .bool_str _ _ _⟩
      | lst ds => obtain ⟨a, xs, rfl, e2, _⟩ := h'.to_lst; cases r'; obtain ⟨_, _, p, _⟩ := I.list (.inl e2); unfold eqD; exact ⟨.bool_list _ p.isList hu', .bool_list _ p.isList hu', .bool_list _ p.isList hu'⟩
      | tup ds => obtain ⟨a, xs, rfl, e2, _⟩ := h'.to_tup; cases r'; obtain ⟨_, _, p, _⟩ := I.tuple (.inl (.inl e2)); unfold eqD; exact ⟨.bool_tuple _ p hu', .bool_tuple _ p hu', .bool_tuple _ p hu'⟩
      | oth => unfold D.ok at hok'; cases hok'
    | int c =>
      unfold Den at h; subst h; obtain ⟨t, rfl⟩ := r
      cases d' with
      | non => unfold Den at h'; subst h'; cases r'; unfold eqD; exact ⟨.int_none _ _, .int_none _ _, .int_none _ _⟩
      | bl b => unfold Den at h'; subst h'; cases r'; unfold eqD; exact ⟨.int_bool _ _ _, .int_bool _ _ _, .int_bool _ _ _⟩
      | int b => unfold Den at h'; subst h'; obtain ⟨t, rfl⟩ := r'; unfold eqD; exact ⟨.int_int _ _ _ _, .int_int _ _ _ _, .int_int _ _ _ _⟩
      | str b => unfold Den at h'; subst h'; obtain ⟨t, rfl⟩ := r'; unfold eqD; exact ⟨.int_str _ _ _ _, .int_str _ _ _ _, .int_str _ _ _ _⟩
      | lst ds => obtain ⟨a, xs, rfl, e2, _⟩ := h'.to_lst; cases r'; obtain ⟨_, _, p, _⟩ := I.list (.inl e2); unfold eqD; exact ⟨.int_list _ _ p.isList hu', .int_list _ _ p.isList hu', .int_list _ _ p.isList hu'⟩
      | tup ds => obtain ⟨a, xs, rfl, e2, _⟩ := h'.to_tup; cases r'; obtain ⟨_, _, p, _⟩ := I.tuple (.inl (.inl e2)); unfold eqD; exact ⟨.int_tuple _ _ p hu', .int_tuple _ _ p hu', .int_tuple _ _ p hu'⟩
      | oth => unfold D.ok at hok'; cases hok'
    | str c =>
      unfold Den at h; subst h; obtain ⟨t, rfl⟩ := r
      cases d' with
      | non => unfold Den at h'; subst h'; cases r'; unfold eqD; exact ⟨.str_none _ _, .str_none _ _, .str_none _ _⟩
      | bl b => unfold Den at h'; subst h'; cases r'; unfold eqD; exact ⟨.str_bool _ _ _, .str_bool _ _ _, .str_bool _ _ _⟩
      | int b => unfold Den at h'; subst h'; obtain ⟨t, rfl⟩ := r'; unfold eqD; exact ⟨.str_int _ _ _ _, .str_int _ _ _ _, .str_int _ _ _ _⟩
      | str b => unfold Den at h'; subst h'; obtain ⟨t, rfl⟩ := r'; unfold eqD; exact ⟨.str_str _ _ _ _, .str_str _ _ _ _, .str_str _ _ _ _⟩
      | lst ds => obtain ⟨a, xs, rfl, e2, _⟩ := h'.to_lst; cases r'; obtain ⟨_, _, p, _⟩ := I.list (.inl e2); unfold eqD; exact ⟨.str_list _ _ p.isList hu', .str_list _ _ p.isList hu', .str_list _ _ p.isList hu'⟩
      | tup ds => obtain ⟨a, xs, rfl, e2, _⟩ := h'.to_tup; cases r'; obtain ⟨_, _, p, _⟩ := I.tuple (.inl (.inl e2)); unfold eqD; exact ⟨.str_tuple _ _ p hu', .str_tuple _ _ p hu', .str_tuple _ _ p hu'⟩
      | oth => unfold D.ok at hok'; cases hok'
  | succ n ih =>
    intro A d d' v u x y hok hok' hn hu h h' r r'
    have hu' : A.units < cLine := by omega
    have hin : A.in1.units + n < cLine := by show A.units + 1 + n < cLine; omega
    cases d with
    | lst ds =>
      have hn' : ∀ d ∈ ds, d.dep ≤ n := fun d hd => by
        have h1 := depS_le hd
        unfold D.dep at hn
        omega
      obtain ⟨a, xs, rfl, e2, e3⟩ := h.to_lst
      cases r
      obtain ⟨its, r1, p, _⟩ := I.list (.inl e2)
      cases d' with
      | oth => unfold D.ok at hok'; cases hok'
      | non => unfold Den at h'; subst h'; cases r'; unfold eqD; exact ⟨.list_none p.isList hu', .list_none p.isList hu', .list_none p.isList hu'⟩
      | bl b => unfold Den at h'; subst h'; cases r'; unfold eqD; exact ⟨.list_bool _ p.isList hu', .list_bool _ p.isList hu', .list_bool _ p.isList hu'⟩
      | int b => unfold Den at h'; subst h'; obtain ⟨t, rfl⟩ := r'; unfold eqD; exact ⟨.list_int _ _ p.isList hu', .list_int _ _ p.isList hu', .list_int _ _ p.isList hu'⟩
      | str b => unfold Den at h'; subst h'; obtain ⟨t, rfl⟩ := r'; unfold eqD; exact ⟨.list_str _ _ p.isList hu', .list_str _ _ p.isList hu', .list_str _ _ p.isList hu'⟩
      | tup es => obtain ⟨b, ys, rfl, f2, f3⟩ := h'.to_tup; cases r'; obtain ⟨_, _, p2, _⟩ := I.tuple (.inl (.inl f2)); unfold eqD; exact ⟨.list_tuple p.isList p2 hu', .list_tuple p.isList p2 hu', .list_tuple p.isList p2 hu'⟩
      | lst es =>
        have hok1 := hok
        have hok2 := hok'
        unfold D.ok at hok1 hok2
        obtain ⟨b, ys, rfl, f2, f3⟩ := h'.to_lst
        cases r'
        obtain ⟨its2, r2, p2, _⟩ := I.list (.inl f2)
        have n1 : its.toArray.size = ds.length := by rw [List.size_toArray, ← r1.length, e3.len]
        have n2 : its2.toArray.size = es.length := by rw [List.size_toArray, ← r2.length, f3.len]
        by_cases hl : ds.length = es.length
        · have items := cmp_seq (A := A.in1) e3 f3 r1 r2 fun d d' v u x y hd hd' q1 q2 q3 q4 => (ih A.in1 d d' v u x y (okS_mem hok1 hd) (okS_mem hok2 hd') (hn' d hd) hin q1 q2 q3 q4).eq
          refine cmp_of_refs (k := (List.range its.toArray.size).all fun j => eqD (ds.getD j .non) (es.getD j .non)) ?_ hok h h' (.lists p.isList p2.isList (by rw [n1, n2, hl]) hu' items) (.lists p.isList p2.isList (by rw [n1, n2, hl]) hu' items)
          rw [n1, ← eqDs_all hl, eqD_lst]
        · refine cmp_of_refs (k := false) ?_ hok h h' (.lists_lengths p.isList p2.isList (by rw [n1, n2]; simpa using hl) hu') (.lists_lengths p.isList p2.isList (by rw [n1, n2]; simpa using hl) hu')
          unfold eqD
          rw [eqDs_len hl]
    | tup ds =>
      have hn' : ∀ d ∈ ds, d.dep ≤ n := fun d hd => by
        have h1 := depS_le hd
        unfold D.dep at hn
        omega
      obtain ⟨a, xs, rfl, e2, e3⟩ := h.to_tup
      cases r
      obtain ⟨its, r1, p, _⟩ := I.tuple (.inl (.inl e2))
      cases d' with
      | oth => unfold D.ok at hok'; cases hok'
      | non => unfold Den at h'; subst h'; cases r'; unfold eqD; exact ⟨.tuple_none p hu', .tuple_none p hu', .tuple_none p hu'⟩
      | bl b => unfold Den at h'; subst h'; cases r'; unfold eqD; exact ⟨.tuple_bool _ p hu', .tuple_bool _ p hu', .tuple_bool _ p hu'⟩
      | int b => unfold Den at h'; subst h'; obtain ⟨t, rfl⟩ := r'; unfold eqD; exact ⟨.tuple_int _ _ p hu', .tuple_int _ _ p hu', .tuple_int _ _ p hu'⟩
      | str b => unfold Den at h'; subst h'; obtain ⟨t, rfl⟩ := r'; unfold eqD; exact ⟨.tuple_str _ _ p hu', .tuple_str _ _ p hu', .tuple_str _ _ p hu'⟩
      | lst es => obtain ⟨b, ys, rfl, f2, f3⟩ := h'.to_lst; cases r'; obtain ⟨_, _, p2, _⟩ := I.list (.inl f2); unfold eqD; exact ⟨.tuple_list p p2.isList hu', .tuple_list p p2.isList hu', .tuple_list p p2.isList hu'⟩
      | tup es =>
        have hok1 := hok
        have hok2 := hok'
        unfold D.ok at hok1 hok2
        obtain ⟨b, ys, rfl, f2, f3⟩ := h'.to_tup
        cases r'
        obtain ⟨its2, r2, p2, _⟩ := I.tuple (.inl (.inl f2))
        have n1 : its.toArray.size = ds.length := by rw [List.size_toArray, ← r1.length, e3.len]
        have n2 : its2.toArray.size = es.length := by rw [List.size_toArray, ← r2.length, f3.len]
        have items := cmp_seq (A := A.in1) e3 f3 r1 r2 fun d d' v u x y hd hd' q1 q2 q3 q4 => (ih A.in1 d d' v u x y (okS_mem hok1 hd) (okS_mem hok2 hd') (hn' d hd) hin q1 q2 q3 q4).eq
        refine cmp_of_refs (k := (List.range (min its.toArray.size its2.toArray.size)).all (fun j => eqD (ds.getD j .non) (es.getD j .non)) && its.toArray.size == its2.toArray.size) ?_ hok h h' (.tuples p p2 hu' items) (.tuples p p2 hu' items)
        rw [n1, n2, eqD_tup]
        by_cases hl : ds.length = es.length
        · rw [eqDs_all hl, ← hl, Nat.min_self, beq_self_eq_true, Bool.and_true]
        · rw [eqDs_len hl, beq_eq_false_iff_ne.mpr hl, Bool.and_false]
    | oth => unfold D.ok at hok; cases hok
    | non => exact ih A .non d' v u x y hok hok' (by unfold D.dep; omega) (by omega) h h' r r'
    | bl b => exact ih A (.bl b) d' v u x y hok hok' (by unfold D.dep; omega) (by omega) h h' r r'
    | int b => exact ih A (.int b) d' v u x y hok hok' (by unfold D.dep; omega) (by omega) h h' r r'
    | str b => exact ih A (.str b) d' v u x y hok hok' (by unfold D.dep; omega) (by omega) h h' r r'
theorem op_eq_deep (K : PySem.W.Frag) (hK : X.K = K) (hu : X.A.units + 64 < cLine) : OpR X (compareOp .Eq) (fun x y H Q => ∃ d d', Den H x d ∧ Den H y d' ∧ d.ok = true ∧ d'.ok = true ∧ d.dep ≤ 64 ∧ Q (.bl (eqD d d')) H) := by
  subst hK
  intro pins s σ H x y v u Q I rx ry h
  obtain ⟨d, d', h1, h2, k1, k2, hd, q⟩ := h
  exact (cmp_D I 64 X.A d d' x y v u k1 k2 hd hu h1 h2 rx ry).rc X.prog X.w _ _ ⟨.bl _, H, I, rfl, q⟩
theorem op_ne_deep (K : PySem.W.Frag) (hK : X.K = K) (hu : X.A.units + 64 < cLine) : OpR X (compareOp .NotEq) (fun x y H Q => ∃ d d', Den H x d ∧ Den H y d' ∧ d.ok = true ∧ d'.ok = true ∧ d.dep ≤ 64 ∧ Q (.bl (!eqD d d')) H) := by
  subst hK
  intro pins s σ H x y v u Q I rx ry h
  obtain ⟨d, d', h1, h2, k1, k2, hd, q⟩ := h
  exact (cmp_D I 64 X.A d d' x y v u k1 k2 hd hu h1 h2 rx ry).ne X.prog X.w _ _ ⟨.bl _, H, I, rfl, q⟩
end
end L2


set_option linter.all false
set_option maxRecDepth 100000
set_option maxHeartbeats 4000000
namespace L2
open PySem PySem.Spec PyProof.Rows
section
variable {X : Cx} {pins : List (Addr × Obj)} {σ : St} {H : Hp} {s : Shared} {h' : Heap}

theorem Inv.turns {t' : Nat} {ch : List Addr} (I : Inv X pins σ H s) (k : ∀ b o, b ∉ ch → s.heap.get? b = some o → h'.get? b = some o) (hf : ∀ b ∈ ch, FpOk X pins H b) : Inv X pins σ H { s with heap := h', toks := t' } := by
  have nit : ∀ b u, H b = some u → b ∉ ch := fun b u e z => by rw [(hf b z).1] at e; cases e
  refine I.step (g' := s.gens) (d' := s.drawn) (ch := ch) (fun b hb => ⟨(hf b hb).2.2.2.1, (hf b hb).2.1, (hf b hb).2.2.2.2.1, (hf b hb).2.2.2.2.2⟩) (fun b o _ _ hc e _ => k b o hc e) (fun b o _ _ hc e _ => ⟨o.slots, k b o hc e⟩) (fun _ _ _ _ n => n)
    (fun b o hc e => ⟨o, k b o hc e⟩) (fun _ _ e => e) (fun _ _ _ e => e) (fun b ps e => ⟨#[], by rw [e]; simp⟩) (fun m hm => ?_) (fun b u e => ?_) I.bare
  · obtain ⟨o, es, ep, ho, r⟩ := hm
    exact ⟨o, es, ep, k _ o (fun z => (hf _ z).2.1 rfl) ho, r⟩
  · refine (I.hok b u e).stay (fun c v hc q => k c v ?_ q) (fun _ q => q) fun _ _ q => q
    rcases hc with z | z
    · rw [z]; exact nit b u e
    · exact nit c _ z

end

def Ite (K : PySem.W.Frag) (a : Addr) : It :=
  ⟨fun i H => ∃ xs x, SqL K H a xs ∧ xs[i]? = some x, fun i H v H' => ∃ T, H T = none ∧ v = .ref T ∧ ∀ xs, SqL K H a xs → ∃ x, xs[i]? = some x ∧ H' = upd H T (.tup [.int i, x]), fun i H => ∃ xs, SqL K H a xs ∧ xs.length ≤ i⟩
section
variable {X : Cx} {elts : List Expr} {k : Nat} {tpos : Pos}
def iEnum (K : PySem.W.Frag) (ta : TA) : TI := fun σ H R => ta σ H fun vs H1 => ∃ a, vs = [.ref a] ∧ (∃ xs, Rd H1 a (.lst xs)) ∧ R (Ite K a) H1
theorem vals_of : ∀ {xs : List V} {us : List Value}, xs.length = us.length → (∀ (j : Nat) (x : V) (u : Value), xs[j]? = some x → us[j]? = some u → RelV x u) → Vals xs us
  | [], [], _, _ => .nil
  | [], _ :: _, h, _ => by cases h
  | _ :: _, [], h, _ => by cases h
  | x :: xs, u :: us, h, k => .cons (k 0 x u rfl rfl) (vals_of (Nat.succ.inj h) fun j y v h1 h2 => k (j + 1) y v (by simpa using h1) (by simpa using h2))
end

def GivesG (J : It) (n : Nat) (H : Hp) (item : Nat → V → Hp → Prop) : Prop := ∀ i H', Same H H' → Plain H' → (i < n → J.go i H' ∧ ∀ x H3, J.yld i H' x H3 → Same H' H3 ∧ Plain H3 ∧ item i x H3) ∧ J.stop n H'
theorem GivesN.g {J : It} {n : Nat} {H : Hp} {item : Nat → V → Prop} (h : GivesN J n H item) : GivesG J n H fun i x _ => item i x := fun i H' s p =>
  ⟨fun hi => ⟨((h i H' s).1 hi).1, fun x H3 hy => by obtain ⟨e, it⟩ := ((h i H' s).1 hi).2 x H3 hy; subst e; exact ⟨Same.refl _, p, it⟩⟩, (h i H' s).2⟩
end L2


set_option linter.all false
set_option maxRecDepth 100000
set_option maxHeartbeats 4000000
namespace L2
open PySem PySem.Spec PyProof.Rows
section
variable {X : Cx} {elt tg iter : Expr} {ifs : List Expr} {scope : Scope} {cl : List (Str × Addr)} {N : List Str} {ρ : List (Option Nat)} {pos : Pos} {wi : TI} {g : TG} {tc : TT} {te : TE}

theorem comp_core (hc : X.calm = true) (S : CompScope X N ρ scope cl)
    (hg : ∀ C s₀ H₀ ex pn, PG (cxComp X N scope cl C s₀ H₀ ex pn) tg g) (ht : ∀ C s₀ H₀ ex pn, PTs (cxComp X N scope cl C s₀ H₀ ex pn) ifs tc) (he : ∀ C s₀ H₀ ex pn, PE (cxComp X N scope cl C s₀ H₀ ex pn) elt te)
    {pins : List (Addr × Obj)} {s2 : Shared} {σ : St} {H2 : Hp} {it : Addr} {fp : List Addr} {tn : Nat → Heap → Prop} {J : It} {Q : VK} {RR : Value → Addr → Result → Shared → Prop} (I2 : Inv X pins σ H2 s2) (T : Turn X.prog X.w X.K tg J fp it tn) (st2 : tn 0 s2.heap) (f2 : ∀ b ∈ fp, FpOk X pins H2 b)
    (q2 : ∀ l, H2 l = none → CompOk J g tc te Q l (pick ρ σ) H2)
    (fin : ∀ (l C : Addr) (s5 : Shared) (H4 : Hp) (m : Str → Option Value), Inv X pins σ H4 s5 → FpOk X pins H4 C → s5.heap.Ns C m → Q (.ref l) H4 → RR (.ref l) C (.ok .next) s5) :
    wpAny (model X.prog X.w) X.A (newList []) (fun acc s3 => wpAny (model X.prog X.w) X.A (newFunctionEnv scope X.env.globals cl [] X.env.qual none .none (some X.env)) (fun cenv s4 =>
      codeAny (model X.prog X.w) X.A (.compStart (.ListComp elt [⟨tg, iter, ifs, 0⟩] scope pos) 0 (.ref it) acc { cenv with scope := relabel scope X.env }) (RR acc cenv.locals) s4) X.xe s3) X.xe s2 := by
  obtain ⟨W, ⟨m0, w0⟩, turn⟩ := q2 _ (I2.hok.fresh (Nat.le_refl _))
  refine wpAny_newObj_type (wpAny_newFunctionEnv S.nocell (by intro y hy; simp at hy) (fun h₁ hns₁ hsb₁ => ?_) S.kind)
  dsimp only at hns₁ hsb₁ ⊢
  have I3 : Inv X pins σ (upd H2 s2.heap.objs.size (.lst [])) { s2 with heap := s2.heap.push { cls := .type "list", dict := none, data := .seq ([] : List Value).toArray } } :=
    I2.laid (t' := s2.toks) (fun b u eo => Heap.get?_push_of_some _ eo) (Nat.le_refl _) ⟨by simp, [], 0, .nil, Heap.get?_push_size _ rfl⟩
  generalize hs3 : ({ s2 with heap := s2.heap.push { cls := .type "list", dict := none, data := .seq ([] : List Value).toArray } } : Shared) = s3 at I3
  have es3 : s2.heap.push { cls := .type "list", dict := none, data := .seq ([] : List Value).toArray } = s3.heap := by rw [← hs3]
  rw [es3] at hns₁ hsb₁ ⊢
  have f3 : ∀ b ∈ fp, FpOk X pins (upd H2 s2.heap.objs.size (.lst [])) b := fun b hb => by
    obtain ⟨o, eo, _⟩ := T.obj _ _ st2 b hb
    exact ⟨by rw [upd_ne (Nat.ne_of_lt (Heap.lt_size eo))]; exact (f2 b hb).1, (f2 b hb).2⟩
  have lt3 : ∀ b ∈ fp, b < s3.heap.objs.size := fun b hb => by
    obtain ⟨o, eo, _⟩ := T.obj _ _ st2 b hb
    rw [← es3, Heap.size_push]
    exact Nat.lt_succ_of_lt (Heap.lt_size eo)
  have old : ∀ b o, s3.heap.get? b = some o → h₁.get? b = some o := fun b o eo => hsb₁.extBut b o (Nat.ne_of_lt (Heap.lt_size eo)) (Heap.get?_push_of_some _ eo)
  have Ic : Inv (cxComp X N scope cl s3.heap.objs.size s3 (upd H2 s2.heap.objs.size (.lst [])) fp (X.pn ++ pins)) [] (pick ρ σ) (upd H2 s2.heap.objs.size (.lst [])) { s2 with heap := h₁, toks := s2.toks + ([] : List (Str × Value)).length } :=
    inv_comp S I3 f3 lt3 hns₁ old (by rw [← hs3] <;> rfl)
  have stat : ∀ {pl : List (Addr × Obj)} {H' : Hp}, pl = [] → (∀ b ∈ fp, H' b = none) → ∀ b ∈ fp, FpOk (cxComp X N scope cl s3.heap.objs.size s3 (upd H2 s2.heap.objs.size (.lst [])) fp (X.pn ++ pins)) pl H' b := fun {pl H'} epl hn b hb => by
    subst epl
    refine ⟨hn b hb, Nat.ne_of_lt (lt3 b hb), fun z => ?_, .inl hb, fun x c h1 => (f2 b hb).2.2.2.2.1 x c (S.sub x c h1), fun p hp => (f2 b hb).2.2.2.2.2 p (by simpa using hp)⟩
    rcases List.mem_cons.mp (I3.stkSub b z) with z | z
    · exact (f2 b hb).2.1 z
    · exact (f2 b hb).2.2.1 z
  have st4 : tn 0 h₁ := T.keep _ _ _ st2 fun b hb o eo => old b o (by rw [← es3]; exact Heap.get?_push_of_some _ eo)
  have loop : codeAny (model X.prog X.w) X.A (.compLoop (.ListComp elt [⟨tg, iter, ifs, 0⟩] scope pos) 0 (.ref it) (.ref s2.heap.objs.size) (compEnvC scope cl s3.heap.objs.size X.env))
      (RR (.ref s2.heap.objs.size) s3.heap.objs.size) { s2 with heap := h₁, toks := s2.toks + ([] : List (Str × Value)).length } := by
    refine comp_loop (fun n s' => ∃ i ys τ H', Inv (cxComp X N scope cl s3.heap.objs.size s3 (upd H2 s2.heap.objs.size (.lst [])) fp (X.pn ++ pins)) [] τ H' s' ∧ tn i s'.heap ∧ (∀ b ∈ fp, H' b = none) ∧ W i n ys τ H') ?_ m0
      ⟨0, [], _, _, Ic, st4, fun b hb => (f3 b hb).1, w0⟩
    rintro n s4 ⟨i, ys, τ, H4, I4, st, fr4, w4⟩
    rcases turn i n ys τ H4 w4 with ⟨stop, qn⟩ | ⟨go, step⟩
    · refine thn (T.done (cxComp X N scope cl s3.heap.objs.size s3 (upd H2 s2.heap.objs.size (.lst [])) fp (X.pn ++ pins)) rfl rfl rfl hc i [] s4 τ H4 _ I4 (stat rfl fr4) st stop) fun r s5 ⟨hr, I5⟩ => ?_
      subst hr
      obtain ⟨m5, hn5, _⟩ := I5.loc
      have get' : ∀ b o, s5.heap.get? b = some o → s5.heap.get? b = some o := fun b o eo => eo
      have un : Un (frs X.stack) fp (upd H2 s2.heap.objs.size (.lst [])) H4 s3.heap s5.heap :=
        ⟨fun b o eo n1 n2 n3 => I5.base.keep b o eo n1 n2 n3, fun b o eo n1 n2 n3 => I5.base.slot b o eo n1 n2 n3, I5.base.free, fun b o eo n1 => I5.base.there b o eo n1, I5.base.tups, I5.base.frzs, I5.base.tbls⟩
      have I6 : Inv X pins σ H4 s5 := I3.call' (s' := s5) (ch := fp) (show s5.os = s3.os from I5.os) un I5.hok I5.bare fun b hb => ⟨(f3 b hb).2.2.2.1, (f3 b hb).2.1, (f3 b hb).2.2.2.2.1, (f3 b hb).2.2.2.2.2⟩
      have fr : H4 s3.heap.objs.size = none := I5.free
      exact fin _ _ s5 H4 m5 I6 (I3.fpOk (Nat.le_refl _) fr) hn5 qn
    · refine thn (T.item (cxComp X N scope cl s3.heap.objs.size s3 (upd H2 s2.heap.objs.size (.lst [])) fp (X.pn ++ pins)) rfl rfl rfl hc i [] s4 τ H4 _ I4 (stat rfl fr4) st go) fun r s5 ⟨u, hr, h5⟩ => ?_
      subst hr
      refine thn h5 fun _ s6 ⟨x, H6, I6, r6, y6, st6, fr6⟩ => ?_
      have I6' := I6.pinned (stat rfl fr6) (T.obj _ _ st6)
      have again : ∀ {s9 : Shared} {τ9 : St} {H9 : Hp} {zs : List V} {m' : Nat}, Inv (cxComp X N scope cl s3.heap.objs.size s3 (upd H2 s2.heap.objs.size (.lst [])) fp (X.pn ++ pins)) ([] ++ pinsAt fp s6.heap) τ9 H9 s9 → m' < n → W (i + 1) m' zs τ9 H9 →
          ∃ m, m < n ∧ ∃ i ys τ H', Inv (cxComp X N scope cl s3.heap.objs.size s3 (upd H2 s2.heap.objs.size (.lst [])) fp (X.pn ++ pins)) [] τ H' s9 ∧ tn i s9.heap ∧ (∀ b ∈ fp, H' b = none) ∧ W i m ys τ H' := fun {s9 τ9 H9 zs m'} I9 hm w9 => by
        refine ⟨m', hm, i + 1, zs, τ9, H9, I9.unpinned, T.keep _ _ _ st6 fun b hb o eo => (I9.pin (b, o) (List.mem_append_right _ (List.mem_append_right _ (mem_pinsAt hb eo)))).1, fun b hb => ?_, w9⟩
        obtain ⟨o, eo, d⟩ := T.obj _ _ st6 b hb
        exact (I9.pin (b, o) (List.mem_append_right _ (List.mem_append_right _ (mem_pinsAt hb eo)))).2.1
      refine thn (hg _ _ _ _ _ _ s6 τ H6 x u _ I6' r6 (step x H6 y6)) fun _ s7 ⟨τ7, H7, I7, q7⟩ => ?_
      refine thn (ht _ _ _ _ _ _ s7 τ7 H7 _ I7 q7) fun ok s8 ⟨H8, I8, q8⟩ => ?_
      cases ok with
      | false =>
        rw [if_neg Bool.false_ne_true] at q8 ⊢
        obtain ⟨m', hm, w9⟩ := q8
        exact again I8 hm w9
      | true =>
        rw [if_pos rfl] at q8 ⊢
        refine thn (he _ _ _ _ _ _ s8 τ7 H8 _ I8 q8) fun y s9 ⟨z, H9, I9, r9, hl9, hz9, m', hm, w9⟩ => ?_
        refine thn (mt_append _ s9 τ7 H9 (.ref s2.heap.objs.size) [z] (.ref s2.heap.objs.size) [y] (fun _ H' => H' = upd H9 s2.heap.objs.size (.lst (ys ++ [z]))) I9 rfl (.cons r9 .nil) ⟨_, ys, z, rfl, rfl, hl9, hz9, rfl⟩) fun _ s10 ⟨_, H10, I10, _, e10⟩ => ?_
        subst e10
        exact again I10 hm w9
  exact codeAny_compStart_list loop (T.self _ 0 _ _ _ st4 loop)

def tSetC (i : Nat) (te : TE) : TS := fun D σ H => te σ H fun v H1 => D.nx (σ.set i (some v)) H1
theorem ps_setC {i : Nat} {y : Str} {py spos : Pos} (hN : X.N.Nodup) (hi : X.N[i]? = some y) (hy : X.env.scope.names.lookup y = some .local) (hc : X.calm = true) (S : CompScope X N ρ scope cl) (hI : PI X tg iter wi)
    (hg : ∀ C s₀ H₀ ex pn, PG (cxComp X N scope cl C s₀ H₀ ex pn) tg g) (ht : ∀ C s₀ H₀ ex pn, PTs (cxComp X N scope cl C s₀ H₀ ex pn) ifs tc) (he : ∀ C s₀ H₀ ex pn, PE (cxComp X N scope cl C s₀ H₀ ex pn) elt te)
    (hsw : swapsWith (.ListComp elt [⟨tg, iter, ifs, 0⟩] scope pos) (some (.Name y py)) spos.line X.env = pure true := by rfl) (hs : ∀ x, foldedSetIterable iter X.env x = pure x := by intro _; rfl) :
    PS X (.Assign [.Name y py] (.ListComp elt [⟨tg, iter, ifs, 0⟩] scope pos) spos) (tSetC i (tComp ρ wi g tc te)) := by
  intro pins s σ H D I h
  rw [exec_Assign_Name_used _ _ _ _ hsw]
  refine wpAny_bind (wpAny_standAt (wpAny_bind ?_))
  show wpAny _ X.A (do let _ ← comprehension (.ListComp elt [⟨tg, iter, ifs, 0⟩] scope pos) scope X.env _ (newList []) false (eval iter X.env) (some (assign (.Name y py) X.env))) _ _ s
  refine wpAny_bind (wpAny_mono (wpAny_comprehension_free (use := some (assign (.Name y py) X.env)) (Q := fun _ s' => SP X pins D .next s') rfl hs S.clos S.kind S.loc
    (thn (hI pins s σ H _ I h) fun v s1 h1 => thn h1 fun itv s2 h2 => ?_)) (fun _ s' hq => wpAny_pure (wpAny_pure hq)) fun _ _ e => e)
  obtain ⟨it, fp, tn, J, H2, e, I2, T, st2, f2, q2⟩ := h2
  subst e
  refine comp_core (RR := fun acc C => compPost (model X.prog X.w) X.A X.xe (some (assign (.Name y py) X.env)) (fun _ s' => SP X pins D .next s') acc C) hc S hg ht he I2 T st2 f2 q2 fun l C s5 H4 m I6 fC hn q => ?_
  obtain ⟨oC, es, ep, hoC, hdC, hrest⟩ := id hn
  have I7 := I6.pinned (fp := [C]) (fun b hb => by rw [List.mem_singleton.mp hb]; exact fC) (fun b hb => ⟨oC, by rw [List.mem_singleton.mp hb]; exact hoC, fun v z => by rw [hdC] at z; cases z⟩)
  show wpAny _ X.A (assign (.Name y py) X.env (.ref l)) _ _ s5
  refine wpAny_assign_Name (store_ok I7 hN hi (.inl hy) (v := .ref l) rfl (fun s6 I8 => ?_) (.inr hy))
  have hpin := (I8.pin (C, oC) (List.mem_append_right _ (List.mem_append_right _ (mem_pinsAt (List.mem_singleton.mpr rfl) hoC))))
  refine ⟨m, ⟨oC, es, ep, hpin.1, hdC, hrest⟩, fun h' hs' => ?_⟩
  have fC' : ∀ b ∈ [C], FpOk X pins H4 b := fun b hb => by rw [List.mem_singleton.mp hb]; exact fC
  exact ⟨_, H4, I8.unpinned.turns (t' := s6.toks) (fun b o hb eo => (hs'.2 b (fun z => hb (List.mem_singleton.mpr z))).trans eo) fC', q⟩
end
end L2


set_option linter.all false
set_option maxRecDepth 100000
set_option maxHeartbeats 4000000
namespace L2
open PySem PySem.Spec PyProof.Rows
theorem mulOk_small {x : Str} {n : Int} (h1 : x.length ≤ 1000) (h2 : -1000 ≤ n) (h3 : n ≤ 1000) : MulOk x n := by
  refine ⟨?_, fun hn _ => ?_, fun hn _ => ?_⟩
  · rw [Bool.or_eq_false_iff]
    exact ⟨decide_eq_false (by omega), decide_eq_false (by omega)⟩
  · intro hgt
    have hn' : 0 < n := by omega
    have h4 := (Int.ediv_lt_iff_lt_mul hn').mp hgt
    have h5 : (x.length : Int) * n ≤ 1000 * 1000 := Int.mul_le_mul (by omega) h3 (by omega) (by omega)
    omega
  · show decide (x.length * n.toNat > sizeLine) = false
    refine decide_eq_false ?_
    have h5 : x.length * n.toNat ≤ 1000 * 1000 := Nat.mul_le_mul h1 (by omega)
    rw [sizeLine_eq]
    omega
theorem op_mul_str {X : Cx} : OpR X (binaryOp .Mult) (fun x y H Q => ∃ i n, x = .str i ∧ y = .int n ∧ i.length ≤ 1000 ∧ -1000 ≤ n ∧ n ≤ 1000 ∧ Q (.str (Txt.mul i n)) H) := by
  intro pins s σ H x y v u Q I rx ry h
  obtain ⟨i, n, rfl, rfl, h1, h2, h3, q⟩ := h
  obtain ⟨t, rfl⟩ := rx
  obtain ⟨t', rfl⟩ := ry
  exact SB.mul (mulOk_small h1 h2 h3) fun t' k => ⟨.str _, H, I.tok _, ⟨_, rfl⟩, q⟩
theorem atI_some {α : Type} {xs : List α} {i : Int} (h0 : 0 ≤ i) (h1 : i < xs.length) : ∃ v, atI xs i = some v ∧ v ∈ xs := by
  have hj : i.toNat < xs.length := by omega
  have e : ((i.toNat : Nat) : Int) = i := by omega
  refine ⟨xs[i.toNat], ?_, List.getElem_mem hj⟩
  have h := atI_nat (xs := xs) (j := i.toNat) (v := xs[i.toNat]) (by simp [hj])
  rw [e] at h
  exact h
theorem slen (a b : Str) : (a ++ b).length = a.length + b.length := by
  show (a ++ b).cps.size = a.cps.size + b.cps.size
  exact Array.size_append ..
theorem cut_ints (ns : List Int) (lo hi : Option Int) : ∃ cs : List Int, cutV (ns.map V.int) lo hi = cs.map V.int ∧ cs.length ≤ ns.length := by
  refine ⟨(ns.drop (HT.sIx (ns.map V.int).length 0 lo)).take (HT.sIx (ns.map V.int).length (ns.map V.int).length hi - HT.sIx (ns.map V.int).length 0 lo), ?_, ?_⟩
  · unfold cutV
    rw [List.map_take, List.map_drop]
  · rw [List.length_take, List.length_drop]
    omega
theorem in62 {x : Int} (h1 : 0 ≤ x) (h2 : x ≤ 1000) : (-(2 ^ 62) : Int) ≤ x ∧ x < 2 ^ 62 := ⟨Int.le_trans (by decide) h1, Int.lt_of_le_of_lt h2 (by decide)⟩
theorem only_plain {H : Hp} (h : Only H) : Plain H := fun a o e => by
  rcases h a with z | ⟨ob, xs, z⟩
  · rw [e] at z; cases z
  · rw [e] at z; cases z; rfl

end L2


set_option linter.all false
set_option maxRecDepth 100000
set_option maxHeartbeats 4000000
namespace L2
open PySem PySem.Spec PyProof.Rows
def notStar : Expr → Bool
  | .Starred _ _ => false
  | _ => true
theorem star_cons {e : Expr} {es : List Expr} {env : Env} (h : notStar e = true) : starEach (e :: es) env = (false, eval e env) :: starEach es env := by
  cases e <;> first | rfl | cases h

theorem pa_cs {X : Cx} {e : Expr} {es : List Expr} {te : TE} {t : TA} (ha : PE X e te) (hr : PA X es t) (h : notStar e = true := by rfl) : PA X (e :: es) (tCons te t) := pa_cons ha hr (star_cons h)

def newIn (H H' : Hp) : Hp := fun b => if (H b).isNone = true then H' b else none
theorem newIn_same (H H' : Hp) : Same (newIn H H') H' := fun b o e => by
  unfold newIn at e
  split at e
  · exact e
  · cases e
theorem newIn_at {H H' : Hp} {b : Addr} {o : HO} (h : H b = none) (e : H' b = some o) : newIn H H' b = some o := by
  unfold newIn
  rw [h]
  exact e
theorem newIn_del {H H' : Hp} {l : Addr} (h : H l ≠ none) : Same (newIn H H') (del H' l) := fun b o e => by
  have hb : b ≠ l := fun z => by
    subst z
    unfold newIn at e
    cases q : H b with
    | none => exact h q
    | some u => rw [q] at e; cases e
  rw [del_ne hb]
  exact newIn_same H H' b o e
section
variable {X : Cx}

def rSlA : V → Option Int → Option Int → Hp → VK → Prop := fun x lo hi H Q => ∃ a xs, x = .ref a ∧ H a = some (.tup xs) ∧ ∀ p H', Same H H' → (Plain H → Plain H') → (H' = H ∨ H p = none) → H' p = some (.tup (cutV xs lo hi)) → Q (.ref p) H'
def rCatA : R2 := fun x y H Q => ∃ a b xs ys, x = .ref a ∧ y = .ref b ∧ H a = some (.tup xs) ∧ H b = some (.tup ys) ∧ xs.length + ys.length ≤ sizeLine ∧ ∀ p H', Same H H' → (Plain H → Plain H') → (H' = H ∨ H p = none) → H' p = some (.tup (xs ++ ys)) → Q (.ref p) H'
theorem try_split {K : PySem.W.Frag} {C : Addr} {i : Nat} {tb : Ends → (St → XK) → St → Hp → Prop} {ts : TS} {D : Ends} {σ : St} {H : Hp} (M : Value → St → Hp → Prop)
    (hh : ∀ cls σ' H', M cls σ' H' → PySem.W.exmOne K cls (.ref C) = some true ∧ ∀ e, H' e = none →
      ts { nx := fun σ2 H2 => D.nx (σ2.set i none) H2, rt := D.rt, bk := fun σ2 H2 => D.bk (σ2.set i none) H2, ct := fun σ2 H2 => D.ct (σ2.set i none) H2 } (σ'.set i (some (.ref e))) (upd H' e (xO e cls)))
    (hb : ∀ EE : St → XK, (∀ cls σ' o H', M cls σ' H' → EE σ' cls o H') → tb D EE σ H) : tTry K C i tb ts D σ H :=
  hb (fun σ' cls _ H' => PySem.W.exmOne K cls (.ref C) = some true ∧ ∀ e, H' e = none →
      ts { nx := fun σ2 H2 => D.nx (σ2.set i none) H2, rt := D.rt, bk := fun σ2 H2 => D.bk (σ2.set i none) H2, ct := fun σ2 H2 => D.ct (σ2.set i none) H2 } (σ'.set i (some (.ref e))) (upd H' e (xO e cls))) fun cls σ' _ H' m => hh cls σ' H' m
theorem psx_if {c : Expr} {a b : List Stmt} {pos : Pos} {tc : TT} {ta tb : Ends → (St → XK) → St → Hp → Prop} (hc : PT X.nox c tc) (ha : PSXs X a ta) (hb : PSXs X b tb) :
    PSX X (.If c a b pos) (fun D E σ H => tc σ H fun k H1 => if k = true then ta D E σ H1 else tb D E σ H1) := by
  intro pins s σ H D E I h
  refine wpAny_If (wpAny_mono (hc pins s σ H _ (I.wish _) h) (fun k s1 q => ?_) fun _ _ z => z.elim)
  obtain ⟨H1, I1, q⟩ := q
  have I1' := I1.unwish
  cases k with
  | true =>
    rw [if_pos rfl] at q ⊢
    exact ha pins s1 σ H1 D E I1' q
  | false =>
    rw [if_neg Bool.false_ne_true] at q ⊢
    exact hb pins s1 σ H1 D E I1' q
end
end L2


set_option linter.all false
namespace FR
open PySem L2
structure QSs (X : Cx) (st : List Stmt) (t : TS) : Prop where h : PSs X st t
structure QS (X : Cx) (st : Stmt) (t : TS) : Prop where h : PS X st t
theorem qss_cons {X : Cx} {st : Stmt} {rest : List Stmt} {t u : TS} (h1 : QS X st t) (h2 : QSs X rest u) : QSs X (st :: rest) (tSeq t u) := ⟨pss_cons h1.h h2.h⟩
theorem qss_one {X : Cx} {st : Stmt} {t : TS} (h1 : QS X st t) : QSs X [st] t := ⟨pss_one h1.h⟩
structure QE (X : Cx) (e : Expr) (t : TE) : Prop where h : PE X e t
structure QA (X : Cx) (es : List Expr) (t : TA) : Prop where h : PA X es t
theorem qa_nil {X : Cx} : QA X [] tNil := ⟨pa_nil⟩
theorem qa_cs {X : Cx} {e : Expr} {es : List Expr} {te : TE} {t : TA} (ha : QE X e te) (hr : QA X es t) (h : notStar e = true := by rfl) : QA X (e :: es) (tCons te t) := ⟨pa_cs ha.h hr.h h⟩
theorem qe_int {X : Cx} {i j pos} : QE X (.Constant (.int i) j pos) (tC (.int i)) := ⟨pe_int⟩
theorem qe_non {X : Cx} {j pos} : QE X (.Constant .none j pos) (tC .non) := ⟨pe_non⟩
theorem qe_str {X : Cx} {x j pos} : QE X (.Constant (.str x) j pos) (tC (.str x)) := ⟨pe_str⟩
theorem qe_tup {X : Cx} {es : List Expr} {t : TA} {x1 pos} (h : QA X es t) : QE X (.Tuple es x1 pos) (tTup t) := ⟨pe_tup h.h⟩
theorem qe_lst {X : Cx} {es : List Expr} {t : TA} {pos} (h : QA X es t) : QE X (.List es pos) (tLst t) := ⟨pe_lst h.h⟩
theorem qe_ix {X : Cx} {a b : Expr} {ta tb : TE} {pos : Pos} {r : R2} (hr : IxR X r) (ha : QE X a ta) (hb : QE X b tb) (hs : PlainIx b) : QE X (.Subscript a b pos) (tOp r ta tb) := ⟨pe_ix hr ha.h hb.h hs⟩
theorem qs_set {X : Cx} {i : Nat} {x : Str} {e : Expr} {te : TE} {pos pos' : Pos} (hN : X.N.Nodup) (hi : X.N[i]? = some x) (hx : Loc X.env.scope x) (he : QE X e te) (hs : swapsWith e (some (.Name x pos')) pos.line X.env = pure false := by rfl) (hf : X.fn x = true ∨ X.env.scope.names.lookup x = some .local := by first | exact .inl rfl | exact .inr rfl | assumption) :
    QS X (.Assign [.Name x pos'] e pos) (tAsg te (gName i)) := ⟨ps_set hN hi hx he.h hs hf⟩
theorem qex {X : Cx} {st : List Stmt} {q : TS → Prop} (h : ∃ t, QSs X st t ∧ q t) : ∃ t, PSs X st t ∧ q t := let ⟨t, a, b⟩ := h; ⟨t, a.h, b⟩
end FR


set_option linter.all false
set_option maxRecDepth 100000
set_option maxHeartbeats 4000000
namespace L2
open PySem PySem.Spec PyProof.Rows

structure Mk0 (K : PySem.W.Frag) (C : Addr) : Prop where
  makes : PySem.W.makesIn K C = true
  init : PySem.W.findIn K (.ref C) "__init__" = some (some (.builtin "object.__init__"))
  kp : PySem.W.keepIn K (.ref C) = true
def tMk0 (C : Addr) : TE := fun σ H Q => ∀ x dx, H x = none → H dx = none → dx ≠ x → Q (.ref x) (upd (upd H dx (.own x)) x (.ins C dx []))
section
variable {X : Cx} {C : Addr} {x : Str} {p pos : Pos}
end

structure UsedM (P : Program) (w : World) (K : PySem.W.Frag) (mg : Str → Option Value) (CX : CXT) (k : Nat) (C : Addr) (m : Str) (ps : List Str) (sp : Sp) : Prop where
  ok : ∃ f fd, (∀ base, FnOk P w K mg base CX k f fd ps sp) ∧ Meth K C m f ∧ Binds K fd ps []

structure UsedI (P : Program) (w : World) (K : PySem.W.Frag) (mg : Str → Option Value) (CX : CXT) (k : Nat) (C : Addr) (ps : List Str) (sp : Sp) : Prop where
  ok : ∃ f fd, (∀ base, FnOk P w K mg base CX k f fd ps sp) ∧ Mk K C f ∧ Binds K fd ps []

def CMulB (i j : Int) : Prop := i.natAbs < 2 ^ 4000 ∧ j.natAbs < 2 ^ 4000
theorem pe_fldK (K : PySem.W.Frag) {X : Cx} (hK : X.K = K) {e : Expr} {f : Str} {pos : Pos} {ta : TE} (he : PE X e ta) (hb : attributeBase e f X.env (eval e X.env) = eval e X.env) : PE X (.Attribute e f pos) (tFld K ta f) := by subst hK; exact pe_fld he hb
theorem ps_fldK (K : PySem.W.Frag) {X : Cx} (hK : X.K = K) {o value : Expr} {f : Str} {pos pos' : Pos} {ta tv : TE} (ha : PE X o ta) (hv : PE X value tv) (hs : swapsWith value (some (.Attribute o f pos')) pos.line X.env = pure false) : PS X (.Assign [.Attribute o f pos'] value pos) (sFld K ta tv f) := by subst hK; exact ps_fld ha hv hs
end L2


set_option linter.all false
set_option maxRecDepth 100000
set_option maxHeartbeats 4000000
namespace L2
open PySem PySem.Spec PyProof.Rows
section
variable {X : Cx}
theorem mt_str_startswith : MtR X "str.startswith" (fun x vs H Q => ∃ z y, x = .str z ∧ vs = [.str y] ∧ Q (.bl (Txt.startswith z y)) H) := by
  intro pins s σ H x xs v us Q I rx rs h
  obtain ⟨z, y, rfl, rfl, q⟩ := h
  obtain ⟨t, rfl⟩ := rx
  obtain ⟨u, rfl, t', rfl⟩ := rs.one
  exact SC.startswith ⟨.bl _, H, I, rfl, q⟩
end

def splitC (c : Nat) : List Nat → List (List Nat)
  | [] => [[]]
  | a :: r => if a = c then [] :: splitC c r else match splitC c r with
    | [] => [[a]]
    | w :: ws => (a :: w) :: ws
end L2


set_option linter.all false
set_option maxRecDepth 100000
set_option maxHeartbeats 4000000
namespace L2
open PySem PySem.Spec PyProof.Rows
section
variable {X : Cx}
theorem vals_int : ∀ {bs : List Int} {us : List Value} {i : Nat} {v : Value}, Vals (bs.map V.int) us → us[i]? = some v → ∃ b t, bs[i]? = some b ∧ v = .int b t := by
  intro bs us i v r e
  cases e2 : (bs.map V.int)[i]? with
  | none =>
    have := r.none_of e2
    rw [this] at e; cases e
  | some x =>
    obtain ⟨u, hu, ru⟩ := r.get e2
    rw [hu] at e; cases e
    rw [List.getElem?_map] at e2
    cases e3 : bs[i]? with
    | none => rw [e3] at e2; cases e2
    | some b =>
      rw [e3] at e2
      have e4 : V.int b = x := Option.some.inj e2
      subst e4
      obtain ⟨t, ht⟩ := ru
      exact ⟨b, t, rfl, ht⟩
theorem preSum_take (ns : List Int) : ∀ k, k ≤ ns.length → preSum (fun i => (ns[i]?).getD 0) k = (ns.take k).sum
  | 0, _ => by simp [preSum]
  | k + 1, h => by
    have ih := preSum_take ns k (by omega)
    have e : ns[k]? = some ns[k] := List.getElem?_eq_getElem (by omega)
    show preSum (fun i => (ns[i]?).getD 0) k + (ns[k]?).getD 0 = _
    rw [ih, List.take_add_one, e, List.sum_append]
    simp
theorem call_sum (hc : X.calm = true) : CallR X (.builtin "sum") (fun xs H Q => ∃ (p : Addr) (ns : List Int), xs = [.ref p] ∧ SqL X.K H p (ns.map V.int) ∧ Q (.int ns.sum) H) := by
  intro pins s σ H xs us Q I r h
  obtain ⟨p, ns, rfl, hq, q⟩ := h
  obtain ⟨u, rfl, rx⟩ := vals1 r
  cases rx
  obtain ⟨its, rv, pl, hz⟩ := I.list hq
  have hl := pl.isList
  have hlt : p < s.heap.objs.size := by obtain ⟨_, e, _⟩ := hl; exact Heap.lt_size e
  have hlen : ns.length = its.length := by have := rv.length; rwa [List.length_map] at this
  refine call_sum_walkG (wpAny_pyIter_list hl ?_)
  refine ⟨s.heap.objs.size, [s.heap.objs.size, p], [s.heap.objs.size], its.toArray.size, _, _, fun i => (ns[i]?).getD 0, rfl, Walks.list (A := X.A.in1) (I.ok.hd hc) _ p (Nat.ne_of_lt hlt) its.toArray,
    ⟨⟨_, Heap.get?_push_size _ rfl, rfl, rfl⟩, hl.push _⟩, ?_, fun i v hP => ?_, fun h' tk t' hk => ?_⟩
  · intro b hb
    simp only [List.mem_cons, List.not_mem_nil, or_false] at hb
    show b < (s.heap.push _).objs.size
    rw [Heap.size_push]
    rcases hb with rfl | rfl
    · exact Nat.lt_succ_self _
    · exact Nat.lt_succ_of_lt hlt
  · obtain ⟨b, t, eb, rfl⟩ := vals_int rv (i := i) (v := v) (by simpa using hP)
    exact ⟨t, by show Value.int b t = Value.int ((ns[i]?).getD 0) t; rw [eb]; rfl⟩
  · have e : preSum (fun i => (ns[i]?).getD 0) its.toArray.size = ns.sum := by
      rw [List.size_toArray, ← hlen, preSum_take ns _ (Nat.le_refl _), List.take_length]
    rw [e]
    exact ⟨.int ns.sum, H, I.kept (t' := tk) fun b o eb => hk b o (fun z => by rw [List.mem_singleton.mp z] at eb; exact Nat.lt_irrefl _ (Heap.lt_size eb)) (Heap.get?_push_of_some _ eb), ⟨t', rfl⟩, q⟩
end
end L2


set_option linter.all false
set_option maxRecDepth 100000
set_option maxHeartbeats 4000000
namespace L2
open PySem PySem.Spec PyProof.Rows
section
open PySem.W
variable {K : PySem.W.Frag} {M : Model}
end

structure Lands (X : Cx) (pins : List (Addr × Obj)) (σ : St) (H : Hp) (e : Addr) (cls : Value) (s : Shared) : Prop where
  I : Inv X pins σ H s
  new : H e = none
  fly : ∃ (B : Heap) (a0 : Value), Heap.FlyingW B X.stack e cls a0 s.heap ∧ (∀ b u, H b = some u → ∃ o, B.get? b = some o) ∧ (∀ b o, X.s₀.heap.get? b = some o → b ∉ frs X.stack → b ∉ X.ex → ∃ o', B.get? b = some o') ∧ (∀ p ∈ X.pn ++ pins, ∃ o', B.get? p.1 = some o')
abbrev TH := Value → Ends → St → Hp → Prop
def PH (X : Cx) (hs : List ExceptHandler) (t : TH) : Prop := ∀ (pins : List (Addr × Obj)) (s : Shared) (σ : St) (H : Hp) (e : Addr) (cls : Value) (D : Ends), Lands X pins σ H e cls s → t cls D σ H →
  wpAny (model X.prog X.w) X.A (handleBy (.ref e) X.env hs) (SP X pins D) X.xe s

def tTryN (tb : Ends → (St → XK) → St → Hp → Prop) (th : TH) : TS := fun D σ H => tb D (fun σ' cls _ H' => th cls D σ' H') σ H
theorem ps_tryN {X : Cx} {body : List Stmt} {h₀ : ExceptHandler} {hs : List ExceptHandler} {pos : Pos} {tb : Ends → (St → XK) → St → Hp → Prop} {th : TH} (hex : X.ex = []) (hst : X.stack = X.env :: X.outer) (hfr : X.env.frame = some X.env.locals)
    (hb : PSXs X body tb) (hh : PH X (h₀ :: hs) th) : PS X (.Try body (h₀ :: hs) [] [] pos) (tTryN tb th) := by
  intro pins s σ H D I h
  refine wpAny_Try_except (wpAny_mono (hb pins s σ H _ _ I h) (fun f s1 q => ?_) fun ev s1 q => ?_)
  · cases f with
    | next => exact wpAny_execs_nil q
    | ret v => exact q
    | brk => exact q
    | cont => exact q
  · obtain ⟨σ', e, cls, H', B, a0, rfl, I1, fl, new, tr, old, pn, hts⟩ := q
    have fl1 := fl
    rw [hst] at fl1
    refine wpAny_looks_onW (I1.ok.frames.trans (by rw [hst])) hfr fl1 fun h4 held4 up4 => ?_
    refine wpAny_landsW held4 fun h5 fl5 up5 => ?_
    have I5 : Inv X pins σ' H' { s1 with heap := h5 } := I1.moved hex fl.1 fl5.1 (up4.trans up5) tr old pn
    rw [← hst] at fl5
    exact hh pins _ σ' H' e cls D ⟨I5, new, B, a0, fl5, tr, old, pn⟩ hts
section
variable {X : Cx}

theorem ph_test {y : Str} {C : Addr} {np hpos : Pos} {nm : Option Str} {suite : List Stmt} {rest : List ExceptHandler} {pins : List (Addr × Obj)} {s : Shared} {σ : St} {H : Hp} {e : Addr} {cls : Value} {D : Ends} {b : Bool} (L : Lands X pins σ H e cls s) (hg : Gl X y) (hm : X.mg y = some (.ref C)) (hd : (y == ("__debug__" : Str)) = false) (hx : PySem.W.exmOne X.K cls (.ref C) = some b)
    (h : if b = true then codeAny (model X.prog X.w) (X.A.mark (some (.ref e))) (.handlers (.ref e) [.ExceptHandler none nm suite hpos] X.env) (fun r s₂ => match r with
          | .ok f => (match nm with
            | none => SP X pins D f s₂
            | some n => wpAny (model X.prog X.w) X.A (do bindName X.env n .none; unbindBehindTheSuite X.env n hpos) (fun _ s₃ => SP X pins D f s₃) X.xe s₂)
          | .error x => cameBackBy (model X.prog X.w) X.A X.env X.xe x s₂) s
      else wpAny (model X.prog X.w) X.A (handleBy (.ref e) X.env rest) (SP X pins D) X.xe s) :
    wpAny (model X.prog X.w) X.A (handleBy (.ref e) X.env (.ExceptHandler (some (.Name y np)) nm suite hpos :: rest)) (SP X pins D) X.xe s := by
  obtain ⟨B, a0, fl, tr, old, pn⟩ := L.fly
  obtain ⟨oe, vs, he, hc, hdt, _⟩ := fl.first
  refine wpAny_handleBy_cons (codeAny_handlers_test ?_) (by intro q; cases q)
  refine ld_glob (L.I.caught e) hg hm ?_ hd
  have LT : PySem.W.Looks (model X.prog X.w) s.heap (typeOf (.ref e)) cls := hc ▸ (PySem.W.Looks.ld he).andThen .now
  obtain ⟨hp, g, d, tk, os⟩ := s
  refine (PySem.W.exm_one (M := model X.prog X.w) L.I.kIn LT hx) _ _ _ _ (fun _ _ q => q) ?_
  cases b with
  | true => exact h
  | false => exact h
def tSkip (K : PySem.W.Frag) (cs : List Addr) (th : TH) : TH := fun cls D σ H => (∀ c ∈ cs, PySem.W.exmOne K cls (.ref c) = some false) ∧ th cls D σ H

def tHit0 (K : PySem.W.Frag) (C : Addr) (ts : TS) (th : TH) : TH := fun cls D σ H => (PySem.W.exmOne K cls (.ref C) = some true ∧ ts D σ H) ∨ (PySem.W.exmOne K cls (.ref C) = some false ∧ th cls D σ H)
theorem ph_hit0 {y : Str} {C : Addr} {np hpos : Pos} {b₀ : Stmt} {suite : List Stmt} {rest : List ExceptHandler} {ts : TS} {th : TH} (hex : X.ex = []) (hg : Gl X y) (hm : X.mg y = some (.ref C)) (hs : ∀ e, PSs (X.caught e) (b₀ :: suite) ts) (hr : PH X rest th)
    (hd : (y == ("__debug__" : Str)) = false := by decide) : PH X (.ExceptHandler (some (.Name y np)) none (b₀ :: suite) hpos :: rest) (tHit0 X.K C ts th) := by
  intro pins s σ H e cls D L h
  rcases h with ⟨hx, h⟩ | ⟨hx, h⟩
  · refine ph_test L hg hm hd hx ?_
    rw [if_pos rfl]
    obtain ⟨B, a0, fl, tr, old, pn⟩ := L.fly
    refine codeAny_handlers_suite ?_
    refine lands_againW fl fun h6 fl6 up6 => ?_
    have I6 : Inv X pins σ H { s with heap := h6 } := L.I.moved hex fl.1 fl6.1 up6 tr old pn
    refine wpAny_mono (hs e pins _ _ _ _ (I6.caught e) h) (fun f s9 q => ?_) fun _ _ z => z.elim
    cases f with
    | next => obtain ⟨σ2, H2, I9, q⟩ := q; exact ⟨_, H2, I9.uncaught L.I.ok, q⟩
    | brk => obtain ⟨σ2, H2, I9, q⟩ := q; exact ⟨_, H2, I9.uncaught L.I.ok, q⟩
    | cont => obtain ⟨σ2, H2, I9, q⟩ := q; exact ⟨_, H2, I9.uncaught L.I.ok, q⟩
    | ret u => obtain ⟨v, σ2, H2, I9, r, q⟩ := q; exact ⟨v, _, H2, I9.uncaught L.I.ok, r, q⟩
  · refine ph_test L hg hm hd hx ?_
    rw [if_neg Bool.false_ne_true]
    exact hr pins s σ H e cls D L h

def tHitAs (K : PySem.W.Frag) (C : Addr) (i : Nat) (ts : TS) (th : TH) : TH := fun cls D σ H => (PySem.W.exmOne K cls (.ref C) = some true ∧ ∀ e, H e = none →
  ts { nx := fun σ2 H2 => D.nx (σ2.set i none) H2, rt := D.rt, bk := fun σ2 H2 => D.bk (σ2.set i none) H2, ct := fun σ2 H2 => D.ct (σ2.set i none) H2 } (σ.set i (some (.ref e))) (upd H e (xO e cls))) ∨ (PySem.W.exmOne K cls (.ref C) = some false ∧ th cls D σ H)
theorem Lands.push {pins : List (Addr × Obj)} {s : Shared} {σ : St} {H : Hp} {e : Addr} {cls : Value} (L : Lands X pins σ H e cls s) (ob : Obj) : Lands X pins σ H e cls { s with heap := s.heap.push ob } := by
  obtain ⟨B, a0, fl, tr, old, pn⟩ := L.fly
  have k : ∀ b o, s.heap.get? b = some o → (s.heap.push ob).get? b = some o := fun b o e => Heap.get?_push_of_some _ e
  exact ⟨L.I.kept (t' := s.toks) k, L.new, B, a0, PySem.W.flying_keeps fl k, tr, old, pn⟩

theorem ph_nil : PH X [] (fun _ _ _ _ => False) := fun _ _ _ _ _ _ _ _ h => h.elim
end
end L2


set_option linter.all false
set_option maxRecDepth 100000
set_option maxHeartbeats 4000000
namespace L2
open PySem PySem.Spec PyProof.Rows
section
variable {X : Cx}

def gLst (K : PySem.W.Frag) (n : Nat) (t : TGs) : TG := fun v σ H Q => ∃ a xs, v = .ref a ∧ SqL K H a xs ∧ xs.length = n ∧ t xs σ H Q
end

theorem comp_fm {α : Type} {J : It} {item : Nat → V → Hp → Prop} {tc : TT} {te : TE} {Q : VK} {H : Hp} {l : Addr} {τ : St} {g : TG} (ds : List α) (f : α → Option V) (hJ : GivesG J ds.length H item) (hp : Plain H)
    (hl : H l = none) (hz : ds.length ≤ sizeLine) (keep : St → Prop) (hk0 : keep τ)
    (ht : ∀ (τ' : St) (k : Nat) (d : α) (x : V) (H' : Hp) (Q1 : St → VK) (Q2 : St → Hp → Prop), keep τ' → ds[k]? = some d → item k x H' → Same H H' → Plain H' → (∀ y τ4 H6, keep τ4 → Same H' H6 → Plain H6 → f d = some y → Q1 τ4 y H6) → (∀ τ4 H6, keep τ4 → Same H' H6 → Plain H6 → f d = none → Q2 τ4 H6) →
      g x τ' H' fun τ4 H4 => tc τ4 H4 fun b H5 => if b = true then te τ4 H5 (Q1 τ4) else Q2 τ4 H5)
    (hq : ∀ H', Same H H' → Plain H' → H' l = some (.lst (ds.filterMap f)) → Q (.ref l) H') : CompOk J g tc te Q l τ H := by
  refine comp_by ds.length (fun i ys τ' H2 => i ≤ ds.length ∧ ys = (ds.take i).filterMap f ∧ keep τ' ∧ Same H H2 ∧ Plain H2 ∧ H2 l = some (.lst ys)) ⟨Nat.zero_le _, rfl, hk0, Same.upd hl, hp.upd rfl, upd_same⟩ ?_ ?_
  · rintro i ys τ' H2 N hlt ⟨hi, rfl, hk, hs, hp2, hll⟩ hN
    obtain ⟨hgo, _⟩ := hJ i _ hs hp2
    obtain ⟨h1, h2⟩ := hgo hlt
    refine ⟨h1, fun x H3 hy => ?_⟩
    obtain ⟨s3, p3, it⟩ := h2 x H3 hy
    have e : ds[i]? = some ds[i] := List.getElem?_eq_getElem hlt
    have et : (ds.take (i + 1)).filterMap f = (ds.take i).filterMap f ++ (f ds[i]).toList := by
      rw [List.take_add_one, e, List.filterMap_append]
      have : (some ds[i]).toList.filterMap f = (f ds[i]).toList := by
        cases hf : f ds[i] with
        | none => simp [hf]
        | some y => simp [hf]
      rw [this]
    have hlen : ((ds.take i).filterMap f).length ≤ i := Nat.le_trans (List.length_filterMap_le ..) (by rw [List.length_take]; omega)
    refine ht τ' i ds[i] x H3 (fun τ4 y H6 => H6 l = some (.lst ((ds.take i).filterMap f)) ∧ ((ds.take i).filterMap f).length < sizeLine ∧ N ((ds.take i).filterMap f ++ [y]) τ4 (upd H6 l (.lst ((ds.take i).filterMap f ++ [y]))))
      (fun τ4 H5 => N ((ds.take i).filterMap f) τ4 H5) hk e it (hs.trans s3) p3 (fun y τ4 H6 k4 s6 p6 ef => ?_) fun τ4 H6 k4 s6 p6 ef => ?_
    · rw [ef] at et
      have hl6 : H6 l = some (.lst ((ds.take i).filterMap f)) := s6 _ _ (s3 _ _ hll)
      exact ⟨hl6, by omega, hN _ _ _ ⟨hlt, et.symm, k4, ((hs.trans s3).trans s6).put hl, p6.upd rfl, upd_same⟩⟩
    · rw [ef] at et
      have et : (ds.take (i + 1)).filterMap f = (ds.take i).filterMap f := by rw [et]; exact List.append_nil _
      exact hN _ _ _ ⟨hlt, et.symm, k4, (hs.trans s3).trans s6, p6, s6 _ _ (s3 _ _ hll)⟩
  · rintro ys τ' H2 ⟨_, rfl, _, hs, hp2, hll⟩
    rw [List.take_length] at hll
    exact ⟨(hJ ds.length _ hs hp2).2, hq _ hs hp2 hll⟩
end L2


set_option linter.all false
set_option maxRecDepth 100000
set_option maxHeartbeats 4000000
namespace L2
open PySem PySem.Spec PyProof.Rows
section
variable {X : Cx}

def SameD (kvs kvs' : List (Key × V)) : Prop := kvs.length = kvs'.length ∧ ∀ p ∈ kvs, ∃ i, p.2 = .int i ∧ valV kvs' p.1 = some (.int i)
theorem hits_of {A : Around} {s : Shared} {kb : List (Key × Value)} {kvs' : List (Key × V)} (rb : KV kvs' kb) : ∀ {kvs : List (Key × V)} {ka : List (Key × Value)}, KV kvs ka → (∀ p ∈ kvs, ∃ i, p.2 = .int i ∧ valV kvs' p.1 = some (.int i)) → PySem.W.KeqHits A s kb ka true
  | [], [], _, _ => .nil
  | [], _ :: _, r, _ => by cases r
  | _ :: _, [], r, _ => by cases r
  | p :: kvs, q :: ka, r, h => by
    cases r with
    | cons r1 r2 =>
      obtain ⟨i, e1, e2⟩ := h p (List.mem_cons_self ..)
      obtain ⟨k, v⟩ := q
      obtain ⟨ek, rv⟩ := r1
      rw [e1] at rv
      obtain ⟨t, rfl⟩ := rv
      have rr := rb.val p.1
      rw [e2] at rr
      have ek : p.1 = k := ek
      rw [ek] at rr
      cases e3 : valueAt kb k with
      | none => rw [e3] at rr; exact rr.elim
      | some y =>
        rw [e3] at rr
        obtain ⟨t', rfl⟩ := rr
        have := PySem.W.KeqHits.hit (A := A) (s := s) e3 (SeqAt.EqAt.int_int i t i t') (hits_of rb r2 fun x hx => h x (List.mem_cons_of_mem _ hx))
        rw [show ((i == i) && true) = true by simp] at this
        exact this
theorem op_eq_dict (hu : X.A.units + 1 < cLine) : OpR X (compareOp .Eq) (fun x y H Q => ∃ a b kvs kvs', x = .ref a ∧ y = .ref b ∧ Rd H a (.dK kvs) ∧ Rd H b (.dK kvs') ∧ SameD kvs kvs' ∧ Q (.bl true) H) := by
  intro pins s σ H x y v u Q I rx ry h
  obtain ⟨a, b, kvs, kvs', rfl, rfl, ha, hb, hs, q⟩ := h
  cases rx
  cases ry
  obtain ⟨za, la, va, ra, da⟩ := dk_rd I.hok ha
  obtain ⟨zb, lb, vb, rb, db⟩ := dk_rd I.hok hb
  have hl : va.length = vb.length := by rw [← ra.length, ← rb.length]; exact hs.1
  refine PySem.W.keq_eq la lb da db (by omega) (fun _ => hits_of rb ra hs.2) ?_
  rw [hl]
  exact ⟨.bl true, H, I, by simp [RelV], q⟩
end
end L2


set_option linter.all false
set_option maxRecDepth 100000
set_option maxHeartbeats 4000000
namespace FR
open PySem L2
def good (c : Nat) : Bool := decide (32 ≤ c) && decide (c ≤ 126) && !decide (c = 37)
def letter (c : Nat) : Bool := decide (65 ≤ c) && decide (c ≤ 90)
def isSignS (z : Str) : Bool := z.cps.size == 2 && z.cps[0]? == some 39 && good (z.cps.getD 1 0)
def isNameS (z : Str) : Bool := decide (1 ≤ z.cps.size) && decide (z.cps.size ≤ 8) && z.cps.toList.all letter
def isTextS (z : Str) : Bool := decide (z.cps.size ≤ 60) && z.cps.toList.all good
def isSignD : D → Bool
  | .str z => isSignS z
  | _ => false
def isNameD : D → Bool
  | .str z => isNameS z
  | _ => false
def isPartD (d : D) : Bool := isSignD d || isNameD d
def isTextD : D → Bool
  | .str z => isTextS z
  | _ => false
def isWholeD : D → Bool
  | .int _ => true
  | _ => false
def isWorthD : D → Bool
  | .int i => decide (0 ≤ i) && decide (i ≤ 10 ^ 60)
  | _ => false
def arePartsD : D → Bool
  | .tup ds => decide (ds.length ≤ 6) && ds.all isPartD
  | _ => false
def isRuleD : D → Bool
  | .tup [h, p, w] => isNameD h && (arePartsD p && isWorthD w)
  | _ => false
def isGramD : D → Bool
  | .lst ds => decide (ds.length ≤ 60) && ds.all isRuleD
  | _ => false
mutual
def _root_.L2.D.short : D → Bool
  | .str z => decide (z.length ≤ 1000)
  | .lst ds => shortS ds
  | .tup ds => shortS ds
  | _ => true
def shortS : List D → Bool
  | [] => true
  | d :: ds => d.short && shortS ds
end
theorem shortS_mem : ∀ {xs : List D} {d : D}, shortS xs = true → d ∈ xs → d.short = true
  | x :: xs, d, h, hd => by
    unfold shortS at h
    rw [Bool.and_eq_true] at h
    rcases List.mem_cons.mp hd with rfl | hd
    · exact h.1
    · exact shortS_mem h.2 hd
theorem shortS_of : ∀ {xs : List D}, (∀ d ∈ xs, d.short = true) → shortS xs = true
  | [], _ => by unfold shortS; rfl
  | x :: xs, h => by unfold shortS; rw [h x List.mem_cons_self, shortS_of fun d hd => h d (List.mem_cons_of_mem _ hd)]; rfl
theorem short_str {z : Str} (h : z.length ≤ 1000) : (D.str z).short = true := by unfold D.short; exact decide_eq_true h
theorem short_len {z : Str} (h : (D.str z).short = true) : z.length ≤ 1000 := by unfold D.short at h; exact of_decide_eq_true h
theorem line1000 {n : Nat} (h : n ≤ 1000) : n ≤ sizeLine := Nat.le_trans h (by rw [sizeLine_eq]; decide)
theorem short_line {z : Str} (h : (D.str z).short = true) : z.length ≤ sizeLine := line1000 (short_len h)
def isStrD : D → Bool | .str _ => true | _ => false
def isListD : D → Bool | .lst _ => true | _ => false
def isTupD : D → Bool | .tup _ => true | _ => false
def isBoolD : D → Bool | .bl _ => true | _ => false
def isIntD : D → Bool | .int _ => true | .bl _ => true | _ => false
section
variable {K : PySem.W.Frag}
theorem kit_int (d : D) : PySem.W.kitOne K (.type (tyD d)) (.type "int") = some (isIntD d) := by cases d <;> kernel_rfl
theorem kit_bool (d : D) : PySem.W.kitOne K (.type (tyD d)) (.type "bool") = some (isBoolD d) := by cases d <;> kernel_rfl
theorem kit_str (d : D) : PySem.W.kitOne K (.type (tyD d)) (.type "str") = some (isStrD d) := by cases d <;> kernel_rfl
theorem kit_list (d : D) : PySem.W.kitOne K (.type (tyD d)) (.type "list") = some (isListD d) := by cases d <;> kernel_rfl
theorem kit_tuple (d : D) : PySem.W.kitOne K (.type (tyD d)) (.type "tuple") = some (isTupD d) := by cases d <;> kernel_rfl
end
theorem size_len (z : Str) : z.length = z.cps.size := rfl
theorem le_A (c : Nat) : (!decide (([c] : List Nat) < (("A" : Str)).cps.toList)) = decide (65 ≤ c) := by
  have e : (("A" : Str)).cps.toList = [65] := by decide +kernel
  rw [e]
  by_cases h : 65 ≤ c
  · rw [decide_eq_true h, decide_eq_false (by rw [List.cons_lt_cons_iff]; simp; omega)]; rfl
  · rw [decide_eq_false h, decide_eq_true (by rw [List.cons_lt_cons_iff]; left; omega)]; rfl
theorem le_Z (c : Nat) : (!decide ((("Z" : Str)).cps.toList < ([c] : List Nat))) = decide (c ≤ 90) := by
  have e : (("Z" : Str)).cps.toList = [90] := by decide +kernel
  rw [e]
  by_cases h : c ≤ 90
  · rw [decide_eq_true h, decide_eq_false (by rw [List.cons_lt_cons_iff]; simp; omega)]; rfl
  · rw [decide_eq_false h, decide_eq_true (by rw [List.cons_lt_cons_iff]; left; omega)]; rfl
theorem map_bl (g : Nat → Bool) (l : List Nat) : l.map (fun c => V.bl (g c)) = (l.map g).map V.bl := by rw [List.map_map]; rfl
theorem all_map_id {α : Type} (g : α → Bool) (l : List α) : (l.map g).all id = l.all g := by rw [List.all_map]; rfl

theorem bls_of {ys : List V} {ds : List D} {g : D → Bool} (hl : ys.length = ds.length) (h : ∀ (k : Nat) (y : V), ys[k]? = some y → ∃ d, ds[k]? = some d ∧ y = .bl (g d)) : ys = (ds.map g).map V.bl := by
  refine List.ext_getElem? fun k => ?_
  by_cases hk : k < ys.length
  · obtain ⟨d, hd, hy⟩ := h k ys[k] (List.getElem?_eq_getElem hk)
    rw [List.getElem?_eq_getElem hk, List.getElem?_map, List.getElem?_map, hd, hy]
    rfl
  · rw [List.getElem?_eq_none (by omega), List.getElem?_eq_none (by rw [List.length_map, List.length_map]; omega)]
theorem and_read {te : TE} {σ : St} {H : Hp} {R : VK} {b g : Bool} (ht : b = true → ∀ R : VK, R (.bl g) H → te σ H R) (h : R (.bl (b && g)) H) : if b = true then te σ H R else R (.bl false) H := by
  cases b with
  | true => exact ht rfl R h
  | false => exact h
theorem or_read {te : TE} {σ : St} {H : Hp} {R : VK} {b g : Bool} (ht : b = false → ∀ R : VK, R (.bl g) H → te σ H R) (h : R (.bl (b || g)) H) : if b = true then R (.bl true) H else te σ H R := by
  cases b with
  | true => exact h
  | false => exact ht rfl R h
def spIs (g : D → Bool) : Sp := fun vs H Q _ => ∃ x d, vs = [x] ∧ Den H x d ∧ d.short = true ∧ Plain H ∧ Q (.bl (g d)) H
def spStands : Sp := fun vs H Q _ => ∃ c, vs = [.str ⟨#[c]⟩] ∧ Q (.bl (good c)) H
def spChecked (C : Addr) : Sp := fun vs H Q E => ∃ x d, vs = [x] ∧ Den H x d ∧ d.short = true ∧ Plain H ∧
  (isGramD d = true → ∀ (l : Addr) (xs : List V) (ds : List D), d = .lst ds → Dens H xs ds → H l = none → Q (.ref l) (upd H l (.lst xs))) ∧ (isGramD d = false → E (.ref C) none H)
theorem bool_false {b : Bool} (h : (!b) = true) : b = false := by cases b <;> first | rfl | cases h
theorem bool_true {b : Bool} (h : ¬ (!b) = true) : b = true := by cases b <;> first | rfl | exact absurd rfl h
def spCheckedT (C : Addr) : Sp := fun vs H Q E => ∃ x d, vs = [x] ∧ Den H x d ∧ d.short = true ∧ Plain H ∧ (∀ z, d = .str z → isTextS z = true → Q (.str z) H) ∧ (isTextD d = false → E (.ref C) none H)
end FR


set_option linter.all false
set_option maxRecDepth 100000
set_option maxHeartbeats 4000000
namespace FR
open PySem L2
abbrev Rule := Str × List Str × Int
abbrev Gram := List Rule
def ruleD (r : Rule) : D := .tup [.str r.1, .tup (r.2.1.map D.str), .int r.2.2]
def gramD (g : Gram) : D := .lst (g.map ruleD)
def isPartS (z : Str) : Bool := isSignS z || isNameS z
def okRule (r : Rule) : Bool := isNameS r.1 && ((decide (r.2.1.length ≤ 6) && r.2.1.all isPartS) && (decide (0 ≤ r.2.2) && decide (r.2.2 ≤ 10 ^ 60)))
def okGram (g : Gram) : Bool := decide (g.length ≤ 60) && g.all okRule
theorem isRuleD_ruleD (r : Rule) : isRuleD (ruleD r) = okRule r := by
  obtain ⟨h, ps, w⟩ := r
  show (isNameD (.str h) && (arePartsD (.tup (ps.map D.str)) && isWorthD (.int w))) = _
  show (isNameS h && ((decide ((ps.map D.str).length ≤ 6) && (ps.map D.str).all isPartD) && (decide (0 ≤ w) && decide (w ≤ 10 ^ 60)))) = _
  rw [List.length_map, List.all_map]
  rfl
theorem isGramD_gramD (g : Gram) : isGramD (gramD g) = okGram g := by
  show (decide ((g.map ruleD).length ≤ 60) && (g.map ruleD).all isRuleD) = _
  rw [List.length_map, List.all_map]
  unfold okGram
  congr 1
  congr 1
  funext r
  exact isRuleD_ruleD r
theorem strs_of : ∀ {ds : List D}, ds.all isPartD = true → ∃ ps : List Str, ds = ps.map D.str
  | [], _ => ⟨[], rfl⟩
  | d :: ds, h => by
    rw [List.all_cons, Bool.and_eq_true] at h
    obtain ⟨ps, rfl⟩ := strs_of h.2
    cases d with
    | str z => exact ⟨z :: ps, rfl⟩
    | _ => cases h.1
theorem rule_of {d : D} (h : isRuleD d = true) : ∃ r : Rule, d = ruleD r := by
  unfold isRuleD at h
  split at h
  · rename_i a b c
    rw [Bool.and_eq_true, Bool.and_eq_true] at h
    obtain ⟨h1, h2, h3⟩ := h
    cases a with
    | str z =>
      cases b with
      | tup ds =>
        cases c with
        | int w =>
          unfold arePartsD at h2
          rw [Bool.and_eq_true] at h2
          obtain ⟨ps, rfl⟩ := strs_of h2.2
          exact ⟨(z, ps, w), rfl⟩
        | _ => cases h3
      | _ => cases h2
    | _ => cases h1
  · cases h
theorem gram_of {d : D} (h : isGramD d = true) : ∃ g : Gram, d = gramD g ∧ okGram g = true := by
  cases d with
  | lst ds =>
    have h0 := h
    unfold isGramD at h
    rw [Bool.and_eq_true] at h
    have go : ∀ (ds : List D), ds.all isRuleD = true → ∃ g : Gram, ds = g.map ruleD := by
      intro ds
      induction ds with
      | nil => exact fun _ => ⟨[], rfl⟩
      | cons d ds ih =>
        intro hd
        rw [List.all_cons, Bool.and_eq_true] at hd
        obtain ⟨g, rfl⟩ := ih hd.2
        obtain ⟨r, rfl⟩ := rule_of hd.1
        exact ⟨r :: g, rfl⟩
    obtain ⟨g, rfl⟩ := go ds h.2
    refine ⟨g, rfl, ?_⟩
    rw [← isGramD_gramD]
    exact h0
  | _ => cases h
theorem den_rule {H : Hp} {v : V} {r : Rule} (h : Den H v (ruleD r)) : ∃ t p, v = .ref t ∧ H t = some (.tup [.str r.1, .ref p, .int r.2.2]) ∧ H p = some (.tup (r.2.1.map V.str)) := by
  obtain ⟨t, xs, rfl, ht, hds⟩ := h.to_tup
  match xs, hds with
  | [x0, x1, x2], hds =>
    obtain ⟨_, e0, n0⟩ := hds.get (i := 0) (v := x0) rfl
    obtain ⟨_, e1, n1⟩ := hds.get (i := 1) (v := x1) rfl
    obtain ⟨_, e2, n2⟩ := hds.get (i := 2) (v := x2) rfl
    cases e0
    cases e1
    cases e2
    have f0 := n0.to_str
    have f2 := n2.to_int
    obtain ⟨p, ys, f1, hp, hys⟩ := n1.to_tup
    subst f0 f1 f2
    refine ⟨t, p, rfl, ht, ?_⟩
    have : ys = r.2.1.map V.str := by
      refine List.ext_getElem? fun i => ?_
      cases e : ys[i]? with
      | none =>
        have h1 := List.getElem?_eq_none_iff.mp e
        have h2 := hys.len
        rw [List.length_map] at h2
        rw [List.getElem?_eq_none (by rw [List.length_map]; omega)]
      | some y =>
        obtain ⟨d, hd, dn⟩ := hys.get e
        rw [List.getElem?_map] at hd ⊢
        cases e2 : r.2.1[i]? with
        | none => rw [e2] at hd; cases hd
        | some z =>
          rw [e2] at hd
          cases hd
          rw [dn.to_str]
          rfl
    rw [hp, this]
  | [], h => exact absurd h.len (by simp)
  | [_], h => exact absurd h.len (by simp)
  | [_, _], h => exact absurd h.len (by simp)
  | _ :: _ :: _ :: _ :: _, h => exact absurd h.len (by simp)
theorem den_gram {H : Hp} {v : V} {g : Gram} (h : Den H v (gramD g)) : ∃ a xs, v = .ref a ∧ Rd H a (.lst xs) ∧ Dens H xs (g.map ruleD) := h.to_lst

theorem rule_at {H : Hp} {xs : List V} {g : Gram} (h : Dens H xs (g.map ruleD)) {i : Nat} {v : V} (e : xs[i]? = some v) :
    ∃ r t p, g[i]? = some r ∧ v = .ref t ∧ H t = some (.tup [.str r.1, .ref p, .int r.2.2]) ∧ H p = some (.tup (r.2.1.map V.str)) := by
  obtain ⟨d, hd, dn⟩ := h.get e
  rw [List.getElem?_map] at hd
  cases e2 : g[i]? with
  | none => rw [e2] at hd; cases hd
  | some r =>
    rw [e2] at hd
    cases hd
    obtain ⟨t, p, e3, e4, e5⟩ := den_rule dn
    exact ⟨r, t, p, rfl, e3, e4, e5⟩
def startV : Gram → V
  | [] => .non
  | r :: _ => .str r.1
def hstep (hs : List Str) (h : Str) : List Str := if h ∈ hs then hs else hs ++ [h]
def headsOf (g : Gram) : List Str := (g.map (·.1)).foldl hstep []
def rulesOf (g : Gram) (z : Str) : List Nat := (List.range g.length).filter fun k => decide ((g[k]?.map (·.1)) = some z)
def spStart (C : Addr) : Sp := fun vs H Q E => ∃ x d, vs = [x] ∧ Den H x d ∧ d.short = true ∧ Plain H ∧
  (∀ g, d = gramD g → okGram g = true → ∀ H', Same H H' → Plain H' → Q (startV g) H') ∧ (isGramD d = false → ∀ H', Same H H' → Plain H' → E (.ref C) none H')
def spHeads (C : Addr) : Sp := fun vs H Q E => ∃ x d, vs = [x] ∧ Den H x d ∧ d.short = true ∧ Plain H ∧
  (∀ g, d = gramD g → okGram g = true → ∀ l H', Same H H' → Plain H' → H l = none → H' l = some (.lst ((headsOf g).map V.str)) → Q (.ref l) H') ∧ (isGramD d = false → ∀ H', Same H H' → Plain H' → E (.ref C) none H')
def spRulesOf (C : Addr) : Sp := fun vs H Q E => ∃ x d z, vs = [x, .str z] ∧ Den H x d ∧ d.short = true ∧ Plain H ∧
  (∀ g, d = gramD g → okGram g = true → ∀ l H', Same H H' → Plain H' → H l = none → H' l = some (.lst ((rulesOf g z).map fun (k : Nat) => .int (k : Int))) → Q (.ref l) H') ∧ (isGramD d = false → ∀ H', Same H H' → Plain H' → E (.ref C) none H')

def hdict (hs : List Str) : List (Key × V) := hs.map fun h => (Sum.inr h, .bl true)
end FR


set_option linter.all false
set_option maxRecDepth 100000
set_option maxHeartbeats 4000000
namespace FR
open PySem L2
theorem depS_bound : ∀ {xs : List D} {n : Nat}, (∀ d ∈ xs, d.dep ≤ n) → depS xs ≤ n
  | [], n, _ => by unfold depS; exact Nat.zero_le _
  | x :: xs, n, h => by
    unfold depS
    exact Nat.max_le.mpr ⟨h x List.mem_cons_self, depS_bound fun d hd => h d (List.mem_cons_of_mem _ hd)⟩
theorem ok_lst {xs : List D} (h : ∀ d ∈ xs, d.ok = true) : (D.lst xs).ok = true := by unfold D.ok; exact okS_of h
theorem ok_tup {xs : List D} (h : ∀ d ∈ xs, d.ok = true) : (D.tup xs).ok = true := by unfold D.ok; exact okS_of h
theorem ok_str (z : Str) : (D.str z).ok = true := by unfold D.ok; rfl
theorem ok_int (z : Int) : (D.int z).ok = true := by unfold D.ok; rfl
theorem dep_lst {xs : List D} {n : Nat} (h : ∀ d ∈ xs, d.dep ≤ n) : (D.lst xs).dep ≤ n + 1 := by unfold D.dep; exact Nat.succ_le_succ (depS_bound h)
theorem dep_tup {xs : List D} {n : Nat} (h : ∀ d ∈ xs, d.dep ≤ n) : (D.tup xs).dep ≤ n + 1 := by unfold D.dep; exact Nat.succ_le_succ (depS_bound h)
theorem dep_str (z : Str) : (D.str z).dep = 0 := by unfold D.dep; rfl
theorem dep_int (z : Int) : (D.int z).dep = 0 := by unfold D.dep; rfl
theorem ok_strs (zs : List Str) : (D.lst (zs.map D.str)).ok = true := ok_lst fun d hd => by
  obtain ⟨z, _, rfl⟩ := List.mem_map.mp hd
  exact ok_str z
theorem ok_ints (zs : List Int) : (D.lst (zs.map D.int)).ok = true := ok_lst fun d hd => by
  obtain ⟨z, _, rfl⟩ := List.mem_map.mp hd
  exact ok_int z
theorem dep_strs (zs : List Str) : (D.lst (zs.map D.str)).dep ≤ 64 := Nat.le_trans (dep_lst (n := 0) fun d hd => by
  obtain ⟨z, _, rfl⟩ := List.mem_map.mp hd
  rw [dep_str]; exact Nat.le_refl _) (by decide)
theorem dep_ints (zs : List Int) : (D.lst (zs.map D.int)).dep ≤ 64 := Nat.le_trans (dep_lst (n := 0) fun d hd => by
  obtain ⟨z, _, rfl⟩ := List.mem_map.mp hd
  rw [dep_int]; exact Nat.le_refl _) (by decide)
theorem ok_rule (r : Rule) : (ruleD r).ok = true := by
  refine ok_tup fun d hd => ?_
  simp only [List.mem_cons, List.not_mem_nil, or_false] at hd
  rcases hd with rfl | rfl | rfl
  · exact ok_str _
  · refine ok_tup fun d hd => ?_
    obtain ⟨z, _, rfl⟩ := List.mem_map.mp hd
    exact ok_str z
  · exact ok_int _
theorem dep_rule (r : Rule) : (ruleD r).dep ≤ 2 := by
  refine dep_tup (n := 1) fun d hd => ?_
  simp only [List.mem_cons, List.not_mem_nil, or_false] at hd
  rcases hd with rfl | rfl | rfl
  · rw [dep_str]; decide
  · refine dep_tup (n := 0) fun d hd => ?_
    obtain ⟨z, _, rfl⟩ := List.mem_map.mp hd
    rw [dep_str]; exact Nat.le_refl _
  · rw [dep_int]; decide
theorem ok_gram (g : Gram) : (gramD g).ok = true := ok_lst fun d hd => by
  obtain ⟨r, _, rfl⟩ := List.mem_map.mp hd
  exact ok_rule r
theorem dep_gram (g : Gram) : (gramD g).dep ≤ 64 := Nat.le_trans (dep_lst (n := 2) fun d hd => by
  obtain ⟨r, _, rfl⟩ := List.mem_map.mp hd
  exact dep_rule r) (by decide)
theorem name_len8 {z : Str} (h : isNameS z = true) : z.length ≤ 8 := by
  unfold isNameS at h
  rw [Bool.and_eq_true, Bool.and_eq_true] at h
  exact of_decide_eq_true h.1.2
theorem part_len {z : Str} (h : isPartS z = true) : z.length ≤ 8 := by
  unfold isPartS at h
  rw [Bool.or_eq_true] at h
  rcases h with h | h
  · unfold isSignS at h
    rw [Bool.and_eq_true, Bool.and_eq_true, beq_iff_eq] at h
    show z.cps.size ≤ 8
    omega
  · exact name_len8 h
theorem short_rule {r : Rule} (h : okRule r = true) : (ruleD r).short = true := by
  unfold okRule at h
  simp only [Bool.and_eq_true] at h
  obtain ⟨h1, ⟨h2, h3⟩, h4⟩ := h
  unfold ruleD D.short
  refine shortS_of fun d hd => ?_
  simp only [List.mem_cons, List.not_mem_nil, or_false] at hd
  rcases hd with rfl | rfl | rfl
  · exact short_str (Nat.le_trans (name_len8 h1) (by decide))
  · unfold D.short
    refine shortS_of fun d hd => ?_
    obtain ⟨z, hz, rfl⟩ := List.mem_map.mp hd
    exact short_str (Nat.le_trans (part_len (List.all_eq_true.mp h3 z hz)) (by decide))
  · unfold D.short; rfl
theorem short_gram {g : Gram} (h : okGram g = true) : (gramD g).short = true := by
  unfold okGram at h
  rw [Bool.and_eq_true] at h
  unfold gramD D.short
  refine shortS_of fun d hd => ?_
  obtain ⟨r, hr, rfl⟩ := List.mem_map.mp hd
  exact short_rule (List.all_eq_true.mp h.2 r hr)
theorem gram_60 {g : Gram} (h : okGram g = true) : g.length ≤ 60 := by
  unfold okGram at h
  rw [Bool.and_eq_true] at h
  exact of_decide_eq_true h.1
theorem str_inj : ∀ {a b : List Str}, a.map D.str = b.map D.str → a = b
  | [], [], _ => rfl
  | [], _ :: _, h => by cases h
  | _ :: _, [], h => by cases h
  | x :: a, y :: b, h => by
    rw [List.map_cons, List.map_cons] at h
    injection h with h1 h2
    injection h1 with h3
    rw [h3, str_inj h2]
theorem ruleD_inj {r r' : Rule} (h : ruleD r = ruleD r') : r = r' := by
  obtain ⟨a, b, c⟩ := r
  obtain ⟨a', b', c'⟩ := r'
  unfold ruleD at h
  injection h with h
  injection h with h1 h2
  injection h2 with h2 h3
  injection h3 with h3 _
  injection h1 with h1
  injection h2 with h2
  injection h3 with h3
  have h1' : a = a' := h1
  have h3' : c = c' := h3
  have h2' : b = b' := str_inj h2
  rw [h1', h2', h3']
theorem gramD_inj {g g' : Gram} (h : gramD g = gramD g') : g = g' := by
  unfold gramD at h
  injection h with h
  induction g generalizing g' with
  | nil =>
    cases g' with
    | nil => rfl
    | cons _ _ => cases h
  | cons r g ih =>
    cases g' with
    | nil => cases h
    | cons r' g' =>
      rw [List.map_cons, List.map_cons] at h
      injection h with h1 h2
      rw [ruleD_inj h1, ih h2]
def oV : Option Int → V
  | none => .non
  | some i => .int i
end FR


set_option linter.all false
set_option maxRecDepth 100000
set_option maxHeartbeats 4000000
namespace FR
open PySem L2
def spCell (K : PySem.W.Frag) : Sp := fun vs H Q _ => ∃ (a : Addr) (ns : List Int) (k : Int), vs = [.ref a, .int k] ∧ SqL K H a (ns.map V.int) ∧ 0 ≤ k ∧ ∀ v : Int, Q (.int v) H
def spLaw (K : PySem.W.Frag) : Sp := fun vs H Q _ => ∃ (a : Addr) (ns : List Int), vs = [.ref a] ∧ SqL K H a (ns.map V.int) ∧ ns.length ≤ 63 ∧ Plain H ∧ ∀ H', Q (.bl true) H'
theorem law_start {K : PySem.W.Frag} {H : Hp} {a : Addr} {ns : List Int} (hl : ns.length ≤ 63) (hO : Only H) (hS : SqL K H a (ns.map V.int)) : spLaw K [.ref a] H (fun v _ => v = .bl true) fun _ _ _ => False :=
  ⟨a, ns, rfl, hS, hl, only_plain hO, fun _ => rfl⟩
def nameL (l : List Nat) : Bool := decide (1 ≤ l.length) && decide (l.length ≤ 8) && l.all letter
theorem isName_list (z : Str) : isNameS z = nameL z.cps.toList := by
  unfold isNameS nameL
  rw [Array.length_toList]
def BIG : Str := "ABCDEFGHIJKLMNOPQRSTUVWXYZ"
theorem big_list : BIG.cps.toList = (List.range 26).map (65 + ·) := by decide +kernel
theorem big_len : BIG.cps.toList.length = 26 := by decide +kernel
theorem big_line : BIG.length ≤ sizeLine := line1000 (by decide +kernel)
theorem big_letter {c : Nat} (h : c ∈ BIG.cps.toList) : letter c = true := by
  rw [big_list] at h
  obtain ⟨k, hk, rfl⟩ := List.mem_map.mp h
  have := List.mem_range.mp hk
  unfold letter
  rw [decide_eq_true (by omega), decide_eq_true (by omega)]
  rfl
theorem app_list (a b : Str) : (a ++ b).cps.toList = a.cps.toList ++ b.cps.toList := by
  show (a.cps ++ b.cps).toList = _
  exact Array.toList_append
def strOf : Expr → Str
  | .Constant (.str x) _ _ => x
  | .BinOp _ _ b _ => strOf b
  | _ => ⟨#[]⟩
def valOf : Stmt → Str
  | .Assign _ v _ => strOf v
  | .Return (some v) _ => strOf v
  | _ => ⟨#[]⟩
def halfOf (s : Stmt) (i : Nat) : Str := valOf ((defBody s).getD i (.Pass ⟨0, 0, 0, 0⟩))
def goodCodes : List Nat := (List.range 95).filterMap fun k => if k = 5 then none else some (32 + k)
theorem codes_good {c : Nat} (h : c ∈ goodCodes) : good c = true := by
  obtain ⟨k, hk, e⟩ := List.mem_filterMap.mp h
  have := List.mem_range.mp hk
  unfold good
  split at e
  · cases e
  · cases e
    rw [decide_eq_true (by omega), decide_eq_true (by omega), decide_eq_false (by omega)]
    rfl
theorem codes_len : goodCodes.length = 94 := by decide +kernel
theorem q_list : (("'" : Str)).cps.toList = [39] := by decide +kernel
theorem sign_cps (c : Nat) : (("'" : Str) ++ ⟨#[c]⟩).cps = #[39, c] := by
  apply Array.ext'
  rw [app_list, q_list]
  rfl
theorem sign_sign {c : Nat} (h : good c = true) : isSignS (("'" : Str) ++ ⟨#[c]⟩) = true := by
  unfold isSignS
  rw [sign_cps]
  show (true && good c) = true
  rw [h]
  rfl
theorem sign_part {c : Nat} (h : good c = true) : isPartS (("'" : Str) ++ ⟨#[c]⟩) = true := by
  unfold isPartS
  rw [sign_sign h]
  rfl
theorem okRule_of {r : Rule} (h1 : isNameS r.1 = true) (h2 : r.2.1.length ≤ 6) (h3 : ∀ z ∈ r.2.1, isPartS z = true) (h4 : 0 ≤ r.2.2) (h5 : r.2.2 ≤ 10 ^ 60) : okRule r = true := by
  unfold okRule
  have a : r.2.1.all isPartS = true := List.all_eq_true.mpr h3
  rw [h1, decide_eq_true h2, a, decide_eq_true h4, decide_eq_true h5]
  rfl
theorem strs_items {ys : List V} {P : Str → Prop} (h : ∀ (k : Nat) (y : V), ys[k]? = some y → ∃ z, y = .str z ∧ P z) : ∃ zs : List Str, ys = zs.map V.str ∧ ∀ z ∈ zs, P z := by
  induction ys with
  | nil => exact ⟨[], rfl, by simp⟩
  | cons y ys ih =>
    obtain ⟨zs, rfl, hz⟩ := ih fun k y e => h (k + 1) y (by simpa using e)
    obtain ⟨z, rfl, pz⟩ := h 0 y rfl
    exact ⟨z :: zs, rfl, fun x hx => (List.mem_cons.mp hx).elim (fun e => by rw [e]; exact pz) (hz x)⟩
theorem slice_to {x : Str} {j : Int} (h0 : 0 ≤ j) (h1 : j ≤ x.length) : (Txt.slice x none (some j)).cps.toList = x.cps.toList.take j.toNat := by
  have h := PyProof.Rows.slice_closes_to (x := x) (j := j) ⟨h0, by rw [Array.length_toList]; exact h1⟩
  have e := eq_of_beq h
  rw [e]
  show ((x.cps.toList.drop (0 : Int).toNat).take (j - 0).toNat) = _
  rw [Int.sub_zero]
  rfl
theorem slice_from {x : Str} {i : Int} (h0 : 0 ≤ i) (h1 : i ≤ x.length) : (Txt.slice x (some i) none).cps.toList = x.cps.toList.drop i.toNat := by
  have e := PyProof.Rows.slice_from_eq (x := x) (i := i) (b := x.length) h0 h1 rfl
  rw [e]
  show ((x.cps.toList.drop i.toNat).take ((x.length : Int) - i).toNat) = _
  refine List.take_of_length_le ?_
  rw [List.length_drop, Array.length_toList]
  have : x.length = x.cps.size := rfl
  omega
end FR


set_option linter.all false
set_option maxRecDepth 100000
set_option maxHeartbeats 4000000
namespace FR
open PySem L2
abbrev Sz := List (Str × Int)
def szD (s : Sz) : List (Key × V) := s.map fun p => (Sum.inr p.1, .int p.2)
def look (s : Sz) (z : Str) : Option Int := (s.find? fun p => decide (p.1 = z)).map (·.2)
def putS : Sz → Str → Int → Sz
  | [], z, n => [(z, n)]
  | p :: s, z, n => if p.1 = z then (z, n) :: s else p :: putS s z n
theorem look_cons (p : Str × Int) (s : Sz) (z : Str) : look (p :: s) z = if p.1 = z then some p.2 else look s z := by
  unfold look
  rw [List.find?_cons]
  by_cases h : p.1 = z
  · rw [decide_eq_true h, if_pos h]; rfl
  · rw [decide_eq_false h, if_neg h]
theorem look_put (s : Sz) (z y : Str) (n : Int) : look (putS s z n) y = if y = z then some n else look s y := by
  induction s with
  | nil =>
    show look [(z, n)] y = _
    rw [look_cons]
    by_cases h : y = z
    · rw [if_pos h, if_pos h.symm]
    · rw [if_neg h, if_neg (fun e => h e.symm)]
  | cons p s ih =>
    unfold putS
    by_cases hp : p.1 = z
    · rw [if_pos hp, look_cons, look_cons]
      by_cases h : y = z
      · rw [if_pos h, if_pos h.symm]
      · rw [if_neg h, if_neg (fun e => h e.symm), if_neg (fun e => h (e.symm.trans hp))]
    · rw [if_neg hp, look_cons, look_cons, ih]
      by_cases h : y = z
      · rw [if_pos h, if_neg (fun e => hp (e.trans h))]
        rw [if_pos h]
      · rw [if_neg h]
        simp only [if_neg h]
theorem look_mem {s : Sz} {z : Str} {n : Int} (h : look s z = some n) : (z, n) ∈ s := by
  unfold look at h
  cases e : s.find? fun p => decide (p.1 = z) with
  | none => rw [e] at h; cases h
  | some p =>
    rw [e] at h
    have h1 := List.find?_some e
    have h2 : p.1 = z := of_decide_eq_true h1
    have h3 : p.2 = n := Option.some.inj h
    have := List.mem_of_find?_eq_some e
    rw [← h2, ← h3]
    exact this
theorem look_none {s : Sz} {z : Str} (h : look s z = none) : ¬ z ∈ s.map (·.1) := by
  intro m
  obtain ⟨p, hp, e⟩ := List.mem_map.mp m
  unfold look at h
  cases e2 : s.find? fun p => decide (p.1 = z) with
  | some q => rw [e2] at h; cases h
  | none =>
    have := List.find?_eq_none.mp e2 p hp
    exact this (decide_eq_true e)
theorem look_of {s : Sz} (nd : (s.map (·.1)).Nodup) {z : Str} {n : Int} (h : (z, n) ∈ s) : look s z = some n := by
  induction s with
  | nil => cases h
  | cons p s ih =>
    rw [List.map_cons, List.nodup_cons] at nd
    rw [look_cons]
    rcases List.mem_cons.mp h with e | h
    · rw [← e, if_pos rfl]
    · rw [if_neg, ih nd.2 h]
      intro e
      exact nd.1 (e ▸ List.mem_map.mpr ⟨_, h, rfl⟩)
theorem put_keys (s : Sz) (z : Str) (n : Int) : (putS s z n).map (·.1) = if z ∈ s.map (·.1) then s.map (·.1) else s.map (·.1) ++ [z] := by
  induction s with
  | nil => rfl
  | cons p s ih =>
    unfold putS
    by_cases h : p.1 = z
    · rw [if_pos h, if_pos (by rw [List.map_cons, h]; exact List.mem_cons_self ..), List.map_cons, List.map_cons, h]
    · rw [if_neg h, List.map_cons, ih, List.map_cons]
      by_cases m : z ∈ s.map (·.1)
      · rw [if_pos m, if_pos (List.mem_cons_of_mem _ m)]
      · rw [if_neg m, if_neg (fun e => (List.mem_cons.mp e).elim (fun e => h e.symm) m)]
        rfl
theorem valV_szD (z : Str) : ∀ s : Sz, valV (szD s) (Sum.inr z) = (look s z).map V.int
  | [] => rfl
  | p :: s => by
    show valV ((Sum.inr p.1, V.int p.2) :: szD s) (Sum.inr z) = _
    rw [look_cons]
    by_cases e : p.1 = z
    · rw [valV_pos (by rw [e]), if_pos e]; rfl
    · rw [valV_neg (fun h => e (Sum.inr.inj h)), valV_szD z s, if_neg e]
theorem put_szD {s : Sz} (nd : (s.map (·.1)).Nodup) (z : Str) (n : Int) : putK (szD s) (Sum.inr z) (.int n) = szD (putS s z n) := by
  induction s with
  | nil => rfl
  | cons p s ih =>
    rw [List.map_cons, List.nodup_cons] at nd
    unfold putS
    by_cases e : p.1 = z
    · rw [if_pos e]
      have : valV (szD (p :: s)) (Sum.inr z) = some (.int p.2) := by
        show valV ((Sum.inr p.1, V.int p.2) :: szD s) (Sum.inr z) = _
        rw [valV_pos (by rw [e])]
      unfold putK
      rw [valV_any, this, if_pos (show (some (V.int p.snd)).isSome = true from rfl)]
      show ((Sum.inr p.1, V.int p.2) :: szD s).map _ = (Sum.inr z, V.int n) :: szD s
      rw [List.map_cons]
      congr 1
      · show (if (Sum.inr p.1 : Key) = Sum.inr z then _ else _) = _
        rw [if_pos (by rw [e]), e]
      · refine (List.map_congr_left fun q hq => ?_).trans (List.map_id _)
        obtain ⟨r, hr, rfl⟩ := List.mem_map.mp hq
        show (if (Sum.inr r.1 : Key) = Sum.inr z then _ else _) = _
        rw [if_neg]
        · rfl
        · intro h
          exact nd.1 (by rw [e, ← Sum.inr.inj h]; exact List.mem_map.mpr ⟨r, hr, rfl⟩)
    · rw [if_neg e]
      have ih := ih nd.2
      show putK ((Sum.inr p.1, V.int p.2) :: szD s) (Sum.inr z) (.int n) = (Sum.inr p.1, V.int p.2) :: szD (putS s z n)
      rw [← ih]
      unfold putK
      have e1 : (((Sum.inr p.1, V.int p.2) :: szD s).any fun kv => decide (kv.1 = (Sum.inr z : Key))) = (szD s).any fun kv => decide (kv.1 = (Sum.inr z : Key)) := by
        rw [List.any_cons, decide_eq_false (fun h => e (Sum.inr.inj h))]
        rfl
      rw [e1]
      split
      · rw [List.map_cons]
        congr 1
        show (if (Sum.inr p.1 : Key) = Sum.inr z then _ else _) = _
        rw [if_neg (fun h => e (Sum.inr.inj h))]
      · rfl
def isQ (p : Str) : Bool := Txt.startswith p "'"
def sizeP (s : Sz) (q : Int) (p : Str) : Option Int := if isQ p = true then some q else look s p
def sizeG (s : Sz) (q : Int) : List Str → Int → Option Int
  | [], acc => some acc
  | p :: ps, acc => match sizeP s q p with
    | none => none
    | some m => sizeG s q ps (acc + m)
def sizeR (s : Sz) (q : Int) (ps : List Str) : Option Int := sizeG s q ps 1

def LeS (s' s : Sz) : Prop := ∀ z v, look s z = some v → ∃ v', look s' z = some v' ∧ v' ≤ v
theorem sizeG_mono {s s' : Sz} {q : Int} (h : LeS s' s) : ∀ {ps : List Str} {a a' k : Int}, a' ≤ a → sizeG s q ps a = some k → ∃ k', sizeG s' q ps a' = some k' ∧ k' ≤ k
  | [], a, a', k, ha, e => by
    unfold sizeG at e ⊢
    cases e
    exact ⟨_, rfl, ha⟩
  | p :: ps, a, a', k, ha, e => by
    unfold sizeG at e ⊢
    unfold sizeP at e ⊢
    by_cases hq : isQ p = true
    · rw [if_pos hq] at e ⊢
      exact sizeG_mono h (by omega) e
    · rw [if_neg hq] at e ⊢
      cases e1 : look s p with
      | none => rw [e1] at e; cases e
      | some v =>
        rw [e1] at e
        obtain ⟨v', e2, hv⟩ := h p v e1
        rw [e2]
        exact sizeG_mono h (show a' + v' ≤ a + v by omega) e
theorem sizeG_le {s : Sz} {q B : Int} (hq : q ≤ B) (hs : ∀ z v, look s z = some v → v ≤ B) : ∀ {ps : List Str} {a k : Int}, sizeG s q ps a = some k → k ≤ a + ps.length * B
  | [], a, k, e => by
    unfold sizeG at e
    cases e
    simp
  | p :: ps, a, k, e => by
    unfold sizeG at e
    cases e1 : sizeP s q p with
    | none => rw [e1] at e; cases e
    | some m =>
      rw [e1] at e
      have hm : m ≤ B := by
        unfold sizeP at e1
        split at e1
        · cases e1; exact hq
        · exact hs p m e1
      have := sizeG_le hq hs e
      rw [List.length_cons, show (((ps.length + 1 : Nat) : Int)) * B = ps.length * B + B by rw [Int.natCast_add]; show ((ps.length : Int) + 1) * B = _; rw [Int.add_mul, Int.one_mul]]
      omega
theorem sizeG_ge {s : Sz} {q : Int} (hq : 0 ≤ q) (hs : ∀ z v, look s z = some v → 0 ≤ v) : ∀ {ps : List Str} {a k : Int}, sizeG s q ps a = some k → a ≤ k
  | [], a, k, e => by
    unfold sizeG at e
    cases e
    exact Int.le_refl _
  | p :: ps, a, k, e => by
    unfold sizeG at e
    cases e1 : sizeP s q p with
    | none => rw [e1] at e; cases e
    | some m =>
      rw [e1] at e
      have hm : 0 ≤ m := by
        unfold sizeP at e1
        split at e1
        · cases e1; exact hq
        · exact hs p m e1
      have := sizeG_ge hq hs e
      omega
def bnd (q : Int) (n : Nat) : Int := (1 + 6 * q) * 7 ^ n
theorem bnd_pos {q : Int} (hq : 0 ≤ q) (n : Nat) : 1 + 6 * q ≤ bnd q n := by
  unfold bnd
  have h1 : (1 : Int) ≤ 7 ^ n := Int.pow_pos (by decide : (0 : Int) < 7)
  have := Int.mul_le_mul_of_nonneg_left h1 (show 0 ≤ 1 + 6 * q by omega)
  rw [Int.mul_one] at this
  exact this
theorem bnd_succ (q : Int) (n : Nat) : bnd q (n + 1) = 7 * bnd q n := by
  unfold bnd
  rw [Int.pow_succ, ← Int.mul_assoc, Int.mul_comm]
theorem bnd_mono {q : Int} (hq : 0 ≤ q) {m n : Nat} (h : m ≤ n) : bnd q m ≤ bnd q n := by
  induction h with
  | refl => exact Int.le_refl _
  | step _ ih =>
    rename_i k _
    rw [bnd_succ]
    have h2 := bnd_pos hq k
    omega
structure SzOk (g : Gram) (q : Int) (s : Sz) : Prop where
  nd : (s.map (·.1)).Nodup
  pos : ∀ z v, look s z = some v → 1 ≤ v
  bd : ∀ z v, look s z = some v → v ≤ bnd q s.length
  hd : ∀ z v, look s z = some v → ∃ r ∈ g, r.1 = z ∧ ∃ m, sizeR s q r.2.1 = some m ∧ m ≤ v
def Fix (g : Gram) (q : Int) (s : Sz) : Prop := ∀ r ∈ g, ∀ m, sizeR s q r.2.1 = some m → ∃ v, look s r.1 = some v ∧ v ≤ m
theorem nd_snoc {κ : Type} : ∀ {l : List κ} {k : κ}, l.Nodup → ¬ k ∈ l → (l ++ [k]).Nodup
  | [], k, _, _ => by simp
  | a :: r, k, h, hk => by
    obtain ⟨h1, h2⟩ := List.nodup_cons.mp h
    show (a :: (r ++ [k])).Nodup
    refine List.nodup_cons.mpr ⟨fun m => ?_, nd_snoc h2 fun m => hk (List.mem_cons.mpr (Or.inr m))⟩
    rcases List.mem_append.mp m with q | q
    · exact h1 q
    · exact hk (List.mem_cons.mpr (Or.inl (List.mem_singleton.mp q).symm))
theorem nodup_len {xs ys : List Str} (h : xs.Nodup) (hs : ∀ x ∈ xs, x ∈ ys) : xs.length ≤ ys.length := by
  induction xs generalizing ys with
  | nil => exact Nat.zero_le _
  | cons x xs ih =>
    rw [List.nodup_cons] at h
    have hx := hs x (List.mem_cons_self ..)
    have := ih (ys := ys.erase x) h.2 fun y hy => by
      have hne : y ≠ x := fun e => h.1 (e ▸ hy)
      exact (List.mem_erase_of_ne hne).mpr (hs y (List.mem_cons_of_mem _ hy))
    rw [List.length_erase_of_mem hx] at this
    have hpos := List.length_pos_of_mem hx
    rw [List.length_cons]
    omega
theorem SzOk.len {g : Gram} {q : Int} {s : Sz} (h : SzOk g q s) : s.length ≤ g.length := by
  have := nodup_len (ys := g.map (·.1)) h.nd fun x hx => by
    obtain ⟨p, hp, rfl⟩ := List.mem_map.mp hx
    obtain ⟨r, hr, e, _⟩ := h.hd p.1 p.2 (look_of h.nd hp)
    rw [← e]
    exact List.mem_map.mpr ⟨r, hr, rfl⟩
  rwa [List.length_map, List.length_map] at this

def mu (g : Gram) (q : Int) (s : Sz) : Nat := (g.map fun r => match look s r.1 with
  | none => (bnd q 60).toNat + 1
  | some v => v.toNat).sum
theorem sum_lt {α : Type} {f f' : α → Nat} : ∀ {l : List α}, (∀ x ∈ l, f' x ≤ f x) → (∃ x ∈ l, f' x < f x) → (l.map f').sum < (l.map f).sum
  | [], _, ⟨_, h, _⟩ => by cases h
  | a :: l, h, ⟨x, hx, hlt⟩ => by
    rw [List.map_cons, List.map_cons, List.sum_cons, List.sum_cons]
    have ha := h a (List.mem_cons_self ..)
    have hle : ∀ (l : List α), (∀ x ∈ l, f' x ≤ f x) → (l.map f').sum ≤ (l.map f).sum := by
      intro l
      induction l with
      | nil => intro _; exact Nat.le_refl _
      | cons b l ih =>
        intro h
        rw [List.map_cons, List.map_cons, List.sum_cons, List.sum_cons]
        have h1 := h b (List.mem_cons_self ..)
        have h2 := ih fun x hx => h x (List.mem_cons_of_mem _ hx)
        omega
    rcases List.mem_cons.mp hx with rfl | hx
    · have := hle l fun x hx => h x (List.mem_cons_of_mem _ hx)
      omega
    · have := sum_lt (fun x hx => h x (List.mem_cons_of_mem _ hx)) ⟨x, hx, hlt⟩
      omega
theorem put_len (s : Sz) (z : Str) (n : Int) : (putS s z n).length = if z ∈ s.map (·.1) then s.length else s.length + 1 := by
  have := congrArg List.length (put_keys s z n)
  rw [List.length_map] at this
  rw [this]
  split
  · rw [List.length_map]
  · rw [List.length_append, List.length_map]; rfl

theorem SzOk.step {g : Gram} {q : Int} {s : Sz} (hg : okGram g = true) (hq : 0 ≤ q) (h : SzOk g q s) {r : Rule} (hr : r ∈ g) {m : Int} (hm : sizeR s q r.2.1 = some m) (hv : ∀ v, look s r.1 = some v → m < v) :
    SzOk g q (putS s r.1 m) ∧ mu g q (putS s r.1 m) < mu g q s := by
  have hg60 : g.length ≤ 60 := by
    unfold okGram at hg
    rw [Bool.and_eq_true] at hg
    exact of_decide_eq_true hg.1
  have hr6 : r.2.1.length ≤ 6 := by
    unfold okGram at hg
    rw [Bool.and_eq_true] at hg
    have := List.all_eq_true.mp hg.2 r hr
    unfold okRule at this
    simp only [Bool.and_eq_true, decide_eq_true_eq] at this
    exact this.2.1.1
  have hB := bnd_pos hq s.length
  have hm1 : 1 ≤ m := sizeG_ge hq (fun z v e => Int.le_trans (by decide) (h.pos z v e)) hm
  have hmB : m ≤ 7 * bnd q s.length := by
    have h1 := sizeG_le (show q ≤ bnd q s.length by omega) h.bd hm
    have h2 : (r.2.1.length : Int) * bnd q s.length ≤ 6 * bnd q s.length := Int.mul_le_mul_of_nonneg_right (by omega) (by omega)
    omega
  have le : LeS (putS s r.1 m) s := fun z v e => by
    rw [look_put]
    by_cases hz : z = r.1
    · rw [if_pos hz]
      have := hv v (hz ▸ e)
      exact ⟨m, rfl, by omega⟩
    · rw [if_neg hz]
      exact ⟨v, e, Int.le_refl _⟩
  have nd' : ((putS s r.1 m).map (·.1)).Nodup := by
    rw [put_keys]
    split
    · exact h.nd
    · rename_i hn
      exact nd_snoc h.nd hn
  have bd' : m ≤ bnd q (putS s r.1 m).length := by
    rw [put_len]
    split
    · rename_i hmem
      obtain ⟨p, hp, e⟩ := List.mem_map.mp hmem
      have := look_of h.nd (z := p.1) (n := p.2) hp
      rw [e] at this
      have h1 := hv _ this
      have h2 := h.bd _ _ this
      omega
    · rw [bnd_succ]; exact hmB
  have lenle : s.length ≤ (putS s r.1 m).length := by
    rw [put_len]
    split <;> omega
  have ok' : SzOk g q (putS s r.1 m) := by
    refine ⟨nd', fun z v e => ?_, fun z v e => ?_, fun z v e => ?_⟩
    · rw [look_put] at e
      split at e
      · cases e; exact hm1
      · exact h.pos z v e
    · rw [look_put] at e
      split at e
      · cases e; exact bd'
      · exact Int.le_trans (h.bd z v e) (bnd_mono hq lenle)
    · rw [look_put] at e
      split at e
      · rename_i hz
        cases e
        obtain ⟨k', e1, e2⟩ := sizeG_mono le (Int.le_refl 1) hm
        exact ⟨r, hr, hz.symm, k', e1, e2⟩
      · obtain ⟨r', hr', e1, k, e2, e3⟩ := h.hd z v e
        obtain ⟨k', e4, e5⟩ := sizeG_mono le (Int.le_refl 1) e2
        exact ⟨r', hr', e1, k', e4, by omega⟩
  refine ⟨ok', ?_⟩
  have hB60 : bnd q (putS s r.1 m).length ≤ bnd q 60 := bnd_mono hq (Nat.le_trans ok'.len hg60)
  have hmB60 : m ≤ bnd q 60 := Int.le_trans bd' hB60
  unfold mu
  refine sum_lt (fun x hx => ?_) ⟨r, hr, ?_⟩
  · rw [look_put]
    by_cases hz : x.1 = r.1
    · rw [if_pos hz, hz]
      cases e : look s r.1 with
      | none => show m.toNat ≤ (bnd q 60).toNat + 1; omega
      | some v =>
        have := hv v e
        show m.toNat ≤ v.toNat
        omega
    · rw [if_neg hz]
      exact Nat.le_refl _
  · rw [look_put, if_pos rfl]
    cases e : look s r.1 with
    | none => show m.toNat < (bnd q 60).toNat + 1; omega
    | some v =>
      have := hv v e
      show m.toNat < v.toNat
      omega
theorem SzOk.nil (g : Gram) (q : Int) : SzOk g q [] where
  nd := List.nodup_nil
  pos := fun z v e => by cases e
  bd := fun z v e => by cases e
  hd := fun z v e => by cases e
end FR


set_option linter.all false
set_option maxRecDepth 100000
set_option maxHeartbeats 4000000
namespace FR
open PySem L2

abbrev Wait := Str ⊕ Nat
def numD (g : Gram) : D → Option Rule
  | .int i => if 0 ≤ i then g[i.toNat]? else none
  | _ => none
structure Rdg where
  sg : List Nat
  bg : List Nat
  st : List Nat
def sgn (p : Str) : Nat := p.cps.getD 1 0

def fin (g : Gram) : List Wait → Rdg → List D → Option Rdg
  | [], s, [] => some s
  | [], _, _ :: _ => none
  | .inr k :: ws, s, ds => fin g ws ⟨s.sg, s.bg, s.st.set k s.sg.length⟩ ds
  | .inl p :: ws, s, ds =>
    if isQ p = true then fin g ws ⟨s.sg ++ [sgn p], s.bg, s.st⟩ ds
    else match ds with
      | [] => none
      | d :: ds' => match numD g d with
        | none => none
        | some r => if r.1 = p then fin g (r.2.1.map Sum.inl ++ (Sum.inr s.bg.length :: ws)) ⟨s.sg, s.bg ++ [s.sg.length], s.st ++ [s.sg.length]⟩ ds' else none
termination_by ws _ ds => (ds.length, ws.length)
decreasing_by
  all_goals simp_wf
  all_goals first
    | (apply Prod.Lex.right; omega)
    | (apply Prod.Lex.left; omega)
def startW (g : Gram) : List Wait := match g with
  | [] => []
  | r :: _ => [.inl r.1]
def readG (g : Gram) (ds : List D) : Option Rdg := if g = [] then none else fin g (startW g) ⟨[], [], []⟩ ds
def rowD : D → Option (List D)
  | .lst ds => some ds
  | _ => none
def readD (g : Gram) (d : D) : Option Rdg := (rowD d).bind (readG g)
def waitV : Wait → V
  | .inl p => .str p
  | .inr k => .int (k : Int)
end FR


set_option linter.all false
set_option maxRecDepth 100000
set_option maxHeartbeats 4000000
namespace L2
open PySem PySem.Spec PyProof.Rows
section
variable {X : Cx} {pins : List (Addr × Obj)} {σ : St} {H : Hp} {s : Shared} {d : Addr} {o : Obj} {kvs : List (Key × V)}
end
theorem KV.get {kvs : List (Key × V)} {vs : List (Key × Value)} (r : KV kvs vs) : ∀ {i : Nat} {kv : Key × V}, kvs[i]? = some kv → ∃ u, vs[i]? = some (kv.1, u) ∧ RelV kv.2 u := by
  unfold KV at r
  induction r with
  | nil => intro i kv e; cases e
  | @cons p q ps qs h t ih =>
    intro i kv e
    cases i with
    | zero =>
      cases e
      exact ⟨q.2, by rw [h.1]; rfl, h.2⟩
    | succ j => exact ih (i := j) e

def Itd (d : Addr) (o : Obj) (kvs : List (Key × V)) : It :=
  ⟨fun i H => H d = some (.frz o (.dK kvs)) ∧ i < kvs.length, fun i H v H' => ∃ T kv, H T = none ∧ v = .ref T ∧ kvs[i]? = some kv ∧ H' = upd H T (.tup [kV kv.1, kv.2]), fun i H => H d = some (.frz o (.dK kvs)) ∧ kvs.length ≤ i⟩
def thawN (Z : Addr → Prop) (q : St → Hp → Prop) : St → Hp → Prop := fun σ H => ∃ d o kvs, Z d ∧ H d = some (.frz o (.dK kvs)) ∧ q σ (upd H d (.dK kvs))
def thawR (Z : Addr → Prop) (q : VK) : VK := fun v H => ∃ d o kvs, Z d ∧ H d = some (.frz o (.dK kvs)) ∧ q v (upd H d (.dK kvs))
def tForD (to : TE) (g : TG) (tb : TS) : TS := fun D σ H => to σ H fun x H1 => ∃ d kvs, x = .ref d ∧ H1 d = some (.dK kvs) ∧ ∀ (o : Obj) (Z : Addr → Prop), Z d →
  ∃ W : Nat → Nat → St → Hp → Prop, (∃ m, W 0 m σ (upd H1 d (.frz o (.dK kvs)))) ∧ ∀ i m σ H, W i m σ H → H d = some (.frz o (.dK kvs)) ∧
    ((kvs.length ≤ i ∧ D.nx σ (upd H d (.dK kvs))) ∨ (∃ N : St → Hp → Prop, (∀ σ' H', N σ' H' → ∃ m', m' < m ∧ W (i + 1) m' σ' H') ∧ ∃ kv, kvs[i]? = some kv ∧ ∀ T, H T = none → g (.ref T) σ (upd H T (.tup [kV kv.1, kv.2])) fun σ2 H2 => tb { nx := N, ct := N, bk := thawN Z D.nx, rt := thawR Z D.rt } σ2 H2))
section
variable {X : Cx} {elts : List Expr} {k : Nat} {tpos : Pos}
end

def updL (H : Hp) : List (Addr × HO) → Hp
  | [] => H
  | p :: r => updL (upd H p.1 p.2) r
def FreshL (H : Hp) : List (Addr × HO) → Prop
  | [] => True
  | p :: r => H p.1 = none ∧ FreshL (upd H p.1 p.2) r
theorem updL_same : ∀ {ops : List (Addr × HO)} {H : Hp}, FreshL H ops → Same H (updL H ops)
  | [], H, _ => Same.refl _
  | p :: r, H, f => (Same.upd f.1).trans (updL_same f.2)
theorem updL_plain : ∀ {ops : List (Addr × HO)} {H : Hp}, Plain H → (ops.all fun p => plainH p.2) = true → Plain (updL H ops)
  | [], H, h, _ => h
  | p :: r, H, h, e => by
    rw [List.all_cons, Bool.and_eq_true] at e
    exact updL_plain (H := upd H p.1 p.2) (h.upd e.1) e.2
theorem updL_at : ∀ {ops : List (Addr × HO)} {H : Hp}, FreshL H ops → ∀ (i : Nat) (p : Addr × HO), ops[i]? = some p → updL H ops p.1 = some p.2
  | [], H, _, i, p, e => by cases e
  | q :: r, H, f, i, p, e => by
    cases i with
    | zero =>
      cases e
      exact updL_same f.2 _ _ upd_same
    | succ j => exact updL_at f.2 j p e
end L2


set_option linter.all false
set_option maxRecDepth 100000
set_option maxHeartbeats 4000000
namespace FR
open PySem L2
def dueStep (s : Sz) (z : Str) (acc : Option Int) (r : Rule) : Option Int := if r.1 = z then (match sizeR s 0 r.2.1 with
  | none => acc
  | some m => match acc with
    | none => some m
    | some v => if m < v then some m else some v) else acc
def dueOf (s : Sz) (z : Str) (g : Gram) : Option Int := g.foldl (dueStep s z) none
def unQ (ps : List Str) : List Str := ps.filter fun p => !isQ p
end FR


set_option linter.all false
set_option maxRecDepth 100000
set_option maxHeartbeats 4000000
namespace L2
open PySem PySem.Spec PyProof.Rows
theorem rv_mro : mroOf (.type "reversed") = pure [.type "reversed", .type "object"] := by rw [mroOf_type]; kernel_rfl
theorem rv_newl : typeLookup (.type "reversed") "__new__" = pure (some (.builtin "reversed.__new__")) := by rw [typeLookup_type, builtinLookup_eq_fast]; kernel_rfl
theorem rv_init : Slot "reversed" "__init__" "object.__init__" := .of (owner := "object") (n := "__init__") (by rw [typeLookup_type, builtinLookup_eq_fast]; kernel_rfl) (by decide +kernel) (by decide +kernel) (by decide +kernel) (by first | exact .inl (by decide +kernel) | exact .inr (by decide +kernel)) (by rw [isSubtype_type]; kernel_rfl)
theorem rv_called : TypeCalled "reversed" "reversed.__new__" "object.__init__" := ⟨by decide +kernel, by decide +kernel, ⟨_, _, rv_mro⟩, madeBy_type rv_mro rv_newl (by decide +kernel), by decide +kernel, by rw [isSubtype_type]; kernel_rfl, rv_init⟩
theorem rv_typeCall (a : Value) : checkTypeCall "reversed" ⟨[a], []⟩ = pure () := by kernel_rfl
theorem rv_newCall (a : Value) : checkBuiltinCall "reversed.__new__" ⟨[.type "reversed", a], []⟩ = pure () := by kernel_rfl
theorem rv_entry : entryFor table "reversed.__new__" = some Builtin.«reversed.__new__» := entryFor_of_tree (by kernel_rfl)
theorem rv_noRev : typeLookup (.type "tuple") "__reversed__" = pure none := by rw [typeLookup_type, builtinLookup_eq_fast]; kernel_rfl
theorem rv_get : typeLookup (.type "tuple") "__getitem__" = pure (some (.builtin "tuple.__getitem__")) := by rw [typeLookup_type, builtinLookup_eq_fast]; kernel_rfl
theorem rv_ndict : isSubtype (.type "tuple") (.type "dict") = pure false := by rw [isSubtype_type]; kernel_rfl
theorem rv_slotI : Slot "reversed" "__iter__" "reversed.__iter__" := .of (owner := "reversed") (n := "__iter__") (by rw [typeLookup_type, builtinLookup_eq_fast]; kernel_rfl) (by decide +kernel) (by decide +kernel) (by decide +kernel) (by first | exact .inl (by decide +kernel) | exact .inr (by decide +kernel)) (by rw [isSubtype_type]; kernel_rfl)
theorem rv_slotN : Slot "reversed" "__next__" "reversed.__next__" := .of (owner := "reversed") (n := "__next__") (by rw [typeLookup_type, builtinLookup_eq_fast]; kernel_rfl) (by decide +kernel) (by decide +kernel) (by decide +kernel) (by first | exact .inl (by decide +kernel) | exact .inr (by decide +kernel)) (by rw [isSubtype_type]; kernel_rfl)
theorem rv_entI : entryFor table "reversed.__iter__" = some Builtin.«dict_keyiterator.__iter__» := entryFor_alias (id' := "dict_keyiterator.__iter__") (by kernel_rfl) rfl (by decide +kernel) (by kernel_rfl)
theorem rv_entN : entryFor table "reversed.__next__" = some Builtin.«reversed.__next__» := entryFor_of_tree (by kernel_rfl)
theorem rv_argI (a : Value) : argsOk "reversed.__iter__" ⟨[a], []⟩ := by unfold argsOk; kernel_rfl
theorem rv_argN (a : Value) : argsOk "reversed.__next__" ⟨[a], []⟩ := by unfold argsOk; kernel_rfl
end L2


set_option linter.all false
set_option maxRecDepth 100000
set_option maxHeartbeats 4000000
namespace L2
open PySem PySem.Spec PyProof.Rows
theorem meets_rev_tuple (l : Addr) (items : Array Value) (o : Obj) (n : Nat) (hc : o.cls = .type "tuple") (hd : o.data = .seq items n) (hz : (items.size : Int) < 2 ^ 63) :
    Meets (Builtin.«reversed.__new__» ⟨[.type "reversed", .ref l], []⟩) (fun A R s => s.heap.get? l = some o ∧
      R (.ok (.ret (.ref s.heap.objs.size))) { s with heap := s.heap.push { cls := .type "reversed", data := .fields #[.ref l, rawInt ((items.size : Int) - 1)] }, toks := s.toks + 1 + 1 }) :=
  .of_wp fun prog w A R s h => by
    obtain ⟨hp, g, d, tk, os⟩ := s
    obtain ⟨hl, h⟩ := h
    have hsub := rv_called.sub
    have hT : Shared.TypeIs ⟨hp, g, d, tk, os⟩ (.ref l) "tuple" := ⟨_, hl, hc⟩
    have h1 := rv_noRev
    have h2 := rv_get
    have h3 := rv_ndict
    have ht : IsTup (Shared.heap ⟨hp, g, d, tk, os⟩) l items := ⟨o, hl, hc, n, hd⟩
    wp_walk using len_tuple ht hz
    exact ⟨_, rfl, h⟩
section
variable {prog : Program} {w : World} {A : Around} {E : Value → Shared → Prop} {s : Shared}

theorem stop_it {α : Type} {Q : α → Shared → Prop} {E' : Value → Shared → Prop} (hh : A.handled = none) (h : ∀ e h', (∀ b o, s.heap.get? b = some o → h'.get? b = some o) → Shared.TypeIs { s with heap := h' } e "StopIteration" → E' e { s with heap := h' }) :
    wpAny (model prog w) A (Builtin.SmallTypes.stopIteration : Sem α) Q E' s := by
  unfold Builtin.SmallTypes.stopIteration
  refine wpAny_bind ?_
  simp only [newExc, newTuple]
  refine wpAny_bind (wpAny_newObj_type (wpAny_bind (m := firstArgMember _ _) (wpAny_of_eq (a := Value.none) (by first | rfl | (simp only [firstArgMember]; rfl)) (wpAny_newObj_type ?_ (by size_fits)))) (by size_fits))
  simp only [raiseNew]
  refine wpAny_bind (wpAny_handled ?_)
  rw [hh]
  refine wpAny_bind (wpAny_pure (wpAny_throw (h _ _ (fun b o e => Heap.get?_push_of_some _ (Heap.get?_push_of_some _ e)) ?_)))
  exact ⟨_, Heap.get?_push_size _ rfl, rfl⟩

def RevL (h : Heap) (it l : Addr) (i : Int) : Prop := ∃ o, h.get? it = some o ∧ o.cls = .type "list_reverseiterator" ∧ o.data = .fields #[.ref l, .int i 0]
def RevT (h : Heap) (it l : Addr) (i : Int) : Prop := ∃ o, h.get? it = some o ∧ o.cls = .type "reversed" ∧ o.data = .fields #[.ref l, .int i 0]
theorem call_rev_tuple {l : Addr} {items : Array Value} {Q : Value → Shared → Prop} (hl : IsTup s.heap l items) (hz : (items.size : Int) < 2 ^ 63)
    (h : ∀ h', RevT h' s.heap.objs.size l ((items.size : Int) - 1) → (∀ b o, s.heap.get? b = some o → h'.get? b = some o) → Q (.ref s.heap.objs.size) { s with heap := h', toks := s.toks + 1 + 1 }) : wpAny (model prog w) A (call (.type "reversed") [.ref l]) Q E s := by
  obtain ⟨o, ho, hc, n, hd⟩ := hl
  refine callType_new rv_called (by decide) (rv_typeCall _) (rv_newCall _) (fun obj => F.args_object_init_2 obj _) rv_entry (meets_rev_tuple l items o n hc hd hz) ⟨ho, ?_⟩
  exact ⟨⟨_, Heap.get?_push_size _ rfl, rfl⟩, h _ ⟨_, Heap.get?_push_size _ rfl, rfl, rfl⟩ fun b o e => Heap.get?_push_of_some _ e⟩
theorem iter_revT {it l : Addr} {i : Int} {Q : Value → Shared → Prop} (hit : RevT s.heap it l i) (h : Q (.ref it) s) : wpAny (model prog w) A (pyIter (.ref it)) Q E s := by
  obtain ⟨o, ho, hc, hd⟩ := hit
  have hT : s.TypeIs (.ref it) "reversed" := ⟨o, ho, hc⟩
  refine wpAny_pyIter_slot hT rv_slotI (wpAny_call_entry rv_slotI hT rv_entI ?_ (rv_argI _))
  show wpAny _ _ (ret (.ref it)) _ _ s
  exact wpAny_pure ⟨_, rfl, "reversed", _, hT, rv_slotN.lookup, h⟩
theorem next_revT {it l : Addr} {i : Nat} {items : Array Value} {x : Value} {Q : Option Value → Shared → Prop} (hit : RevT s.heap it l i) (hl : IsTup s.heap l items) (hx : items[i]? = some x) (hz : (items.size : Int) < 2 ^ 63)
    (hQ : ∀ h', RevT h' it l ((i : Int) - 1) → Heap.SameBut it s.heap h' → Q (some x) { s with heap := h', toks := s.toks + 1 }) : wpAny (model prog w) A (pyNext (.ref it)) Q E s := by
  obtain ⟨o, ho, hc, hd⟩ := id hit
  have hT : s.TypeIs (.ref it) "reversed" := ⟨o, ho, hc⟩
  unfold pyNext
  refine wpAny_bind (wpAny_attempt (wpAny_callSpecial?_slot (name := Str.ofString "__next__") hT rv_slotN (wpAny_call_entry rv_slotN hT rv_entN ?_ (rv_argN _))))
  unfold Builtin.«reversed.__next__»
  refine wpAny_bind (wpAny_pure (wpAny_bind (wpAny_field ho hd (x := .ref l) rfl (wpAny_bind (wpAny_field ho hd (x := .int i 0) rfl ?_)))))
  show wpAny _ _ (if ((i : Nat) : Int) < 0 then _ else _) _ _ s
  rw [if_neg (by omega)]
  refine wpAny_bind (wpAny_specialOf hl.typeIs rv_get ?_)
  show wpAny _ _ (mkInt (i : Int) >>= _) _ _ s
  refine wpAny_bind (wpAny_mkInt ?_)
  have hlt : i < items.size := (Array.getElem?_eq_some_iff.mp hx).1
  have hsi : seqIndex? (i : Int) items.size = some i := by
    unfold seqIndex?
    simp
    omega
  refine wpAny_bind (wpAny_attempt (getItem_tuple (s := { s with toks := s.toks + 1 }) hl (by omega) (by omega) hsi hx ?_))
  refine wpAny_bind (wpAny_field (s := { s with toks := s.toks + 1 }) ho hd (x := .int i 0) rfl ?_)
  exact wpAny_bind (wpAny_setField (s := { s with toks := s.toks + 1 }) ho hd (by simp) (wpAny_pure ⟨_, rfl, wpAny_pure (hQ _ ⟨_, Heap.get?_update_self _ ho (Obj.isFreed_of_fields (Obj.data_mapFields hd _)), (Obj.cls_mapFields ..).trans hc, by rw [Obj.data_mapFields hd]; simp [rawInt]⟩ (Heap.SameBut.update ..))⟩))
theorem end_revT {it l : Addr} {Q : Option Value → Shared → Prop} (hh : A.handled = none) (hit : RevT s.heap it l (-1)) (hQ : ∀ h', Heap.ExtBut it s.heap h' → Q none { s with heap := h' }) : wpAny (model prog w) A (pyNext (.ref it)) Q E s := by
  obtain ⟨o, ho, hc, hd⟩ := id hit
  have hT : s.TypeIs (.ref it) "reversed" := ⟨o, ho, hc⟩
  unfold pyNext
  refine wpAny_bind (wpAny_attempt (wpAny_callSpecial?_slot (name := Str.ofString "__next__") hT rv_slotN (wpAny_call_entry rv_slotN hT rv_entN ?_ (rv_argN _))))
  unfold Builtin.«reversed.__next__»
  refine wpAny_bind (wpAny_pure (wpAny_bind (wpAny_field ho hd (x := .ref l) rfl (wpAny_bind (wpAny_field ho hd (x := .int (-1) 0) rfl ?_)))))
  show wpAny _ _ (if (-1 : Int) < 0 then _ else _) _ _ s
  rw [if_pos (by decide)]
  refine wpAny_bind (wpAny_rule (wpAny_bind (show wpAny _ _ (setField (.ref it) 1 (rawInt (-1)) >>= fun _ => setField (.ref it) 0 Value.none) _ _ s from wpAny_bind (wpAny_setField ho hd (by simp) ?_))))
  have ho2 := Heap.get?_update_self (h := s.heap) (a := it) (o := o) (fun o => o.mapFields fun vs => vs.set! 1 (rawInt (-1))) ho (Obj.isFreed_of_fields (Obj.data_mapFields hd _))
  have hd2 : (Obj.mapFields (fun vs => vs.set! 1 (rawInt (-1))) o).data = .fields #[.ref l, rawInt (-1)] := by rw [Obj.data_mapFields hd]; simp
  have b1 : Heap.SameBut it s.heap (s.heap.update it fun o => Obj.mapFields (fun vs => vs.set! 1 (rawInt (-1))) o) := Heap.SameBut.update ..
  refine wpAny_setField (s := { s with heap := s.heap.update it fun o => Obj.mapFields (fun vs => vs.set! 1 (rawInt (-1))) o }) ho2 hd2 (by simp) (wpAny_bind (stop_it (A := A.in1) hh fun e h' k ty => ?_))
  refine wpAny_bind (wpAny_isInstance (b := true) ty isSubtype_stop (wpAny_pure (hQ h' fun b o hb q => k b o ?_)))
  exact ((Heap.SameBut.update ..).2 b hb).trans ((b1.2 b hb).trans q)
end
end L2


set_option linter.all false
set_option maxRecDepth 100000
set_option maxHeartbeats 4000000
namespace L2
open PySem PySem.Spec PyProof.Rows
section
variable {prog : Program} {w : World} {A : Around} {E : Value → Shared → Prop} {s : Shared}
end
end L2


set_option linter.all false
set_option maxRecDepth 100000
set_option maxHeartbeats 4000000
namespace L2
open PySem PySem.Spec PyProof.Rows
def Itrl (K : PySem.W.Frag) (a : Addr) (n : Nat) : It :=
  ⟨fun i H => ∃ xs, SqL K H a xs ∧ xs.length = n ∧ i < n, fun i H x H' => H' = H ∧ ∀ xs, SqL K H a xs → xs[n - 1 - i]? = some x, fun i _ => i = n⟩
def Itrt (K : PySem.W.Frag) (a : Addr) (n : Nat) : It :=
  ⟨fun i H => ∃ xs, SqT K H a xs ∧ xs.length = n ∧ i < n, fun i H x H' => H' = H ∧ ∀ xs, SqT K H a xs → xs[n - 1 - i]? = some x, fun i _ => i = n⟩
theorem turn_revT {P : Program} {w : World} {K : PySem.W.Frag} {tg : Expr} (a it : Addr) (n : Nat) : Turn P w K tg (Itrt K a n) [it] it (fun i h => RevT h it a ((n : Int) - 1 - i)) where
  mem := by simp
  obj := fun i h st b hb => by
    have e : b = it := by simpa using hb
    subst e
    obtain ⟨o, e, c, d⟩ := st
    exact ⟨o, e, fun v z => by rw [d] at z; cases z⟩
  keep := fun i h h' st k => by
    obtain ⟨o, e, r⟩ := st
    exact ⟨o, k it (by simp) o e, r⟩
  item := by
    intro X hP hw hK hc i pins s σ H E I hf st hg
    subst hP hw hK
    obtain ⟨xs, hq, hn, hi⟩ := hg
    obtain ⟨its, rv, p, hz⟩ := I.tuple hq
    have hx : xs[n - 1 - i]? = some xs[n - 1 - i] := List.getElem?_eq_getElem (by omega)
    obtain ⟨u, hu, ru⟩ := rv.get hx
    obtain ⟨f0, f1, f2, f3, f4, f5⟩ := hf it (by simp)
    have e : (n : Int) - 1 - (i : Nat) = ((n - 1 - i : Nat) : Int) := by omega
    rw [e] at st
    have hlen := rv.length
    have hn63 := line63
    refine next_revT st p (x := u) (by simpa using hu) (by rw [List.size_toArray]; omega) fun h' st' sb => ?_
    have e2 : ((n - 1 - i : Nat) : Int) - 1 = (n : Int) - 1 - ((i + 1 : Nat) : Int) := by omega
    rw [e2] at st'
    have I1 : Inv X pins σ H { s with heap := h', toks := s.toks + 1 } := I.turned (t' := s.toks + 1) (fun b o hb e => (sb.2 b hb).trans e) f0 f1 f3 f4 f5
    obtain ⟨o, eo, c, d⟩ := id st'
    exact ⟨u, rfl, go_of (s := { s with heap := h', toks := s.toks + 1 }) eo c d (by decide) ⟨_, H, I1, ru, ⟨rfl, fun ys hy => by rw [I.tuple_inj hy hq]; exact hx⟩, st', fun b hb => (hf b hb).1⟩⟩
  done := by
    intro X hP hw hK hc i pins s σ H E I hf st hg
    subst hP hw hK hg
    obtain ⟨f0, f1, f2, f3, f4, f5⟩ := hf it (by simp)
    have e : ((i : Nat) : Int) - 1 - (i : Nat) = -1 := by omega
    rw [e] at st
    exact end_revT (I.ok.hd hc) st fun h' eb => ⟨rfl, I.turned (t' := s.toks) (fun b o hb e => eb b o hb e) f0 f1 f3 f4 f5⟩
  self := fun _ _ _ _ _ st h => iter_revT st h
section
variable {X : Cx} {tg : Expr}
def iRevL (K : PySem.W.Frag) (ta : TA) : TI := fun σ H R => ta σ H fun vs H1 => ∃ a xs, vs = [.ref a] ∧ Rd H1 a (.lst xs) ∧ R (Itrl K a xs.length) H1
def iRevT (K : PySem.W.Frag) (ta : TA) : TI := fun σ H R => ta σ H fun vs H1 => ∃ a xs, vs = [.ref a] ∧ SqT K H1 a xs ∧ R (Itrt K a xs.length) H1
theorem pi_revT (K : PySem.W.Frag) (hK : X.K = K) {a : Expr} {ta : TA} {p pos : Pos} (hg : Gl X "reversed") (hm : X.mg "reversed" = none) (ha : PA X [a] ta) (hs : starEach [a] X.env = [(false, eval a X.env)] := by rfl) :
    PI X tg (.Call (.Name "reversed" p) [a] [] pos) (iRevT K ta) := by
  subst hK
  intro pins s σ H R I h
  refine Call_ (ld_blt I hg hm PyProof.Rows.Boot.«reversed» (PyProof.Rows.callWith_type1 (thn (ha pos pins s σ H _ I h) fun us s1 ⟨vs, H1, I1, r1, q1⟩ => ?_) hs rfl))
  obtain ⟨l, xs, rfl, hq, q⟩ := q1
  obtain ⟨u, rfl, ru⟩ := vals1 r1
  cases ru
  obtain ⟨its, rv, pl, hz⟩ := I1.tuple hq
  have hlen : xs.length = its.length := rv.length
  have hn63 := line63
  refine call_rev_tuple pl (by rw [List.size_toArray]; omega) fun h' hit hk => ?_
  have I2 : Inv X pins σ H1 { s1 with heap := h', toks := s1.toks + 1 + 1 } := I1.kept (t' := s1.toks + 1 + 1) hk
  refine iter_revT hit ?_
  refine ⟨s1.heap.objs.size, [s1.heap.objs.size], _, _, H1, rfl, I2, turn_revT l _ xs.length, by simpa [hlen] using hit, fun b hb => ?_, q⟩
  have eb : b = s1.heap.objs.size := by simpa using hb
  subst eb
  exact I1.fpOk (Nat.le_refl _) (I1.hok.fresh (Nat.le_refl _))
end
theorem rev_at {xs : List V} {i : Nat} {x : V} (hi : i < xs.length) (h : xs[xs.length - 1 - i]? = some x) : xs.reverse[i]? = some x := by rw [List.getElem?_reverse hi]; exact h
theorem for_revT {K : PySem.W.Frag} {a : Addr} {xs : List V} {g : TG} {tb : TS} {D : Ends} {σ : St} {H : Hp} (Pv : Nat → St → Hp → Prop) (h0 : Pv 0 σ H) (hl : ∀ i σ H, i ≤ xs.length → Pv i σ H → SqT K H a xs)
    (hs : ∀ i x σ H, xs.reverse[i]? = some x → Pv i σ H → g x σ H fun σ2 H2 => tb { D with nx := Pv (i + 1), ct := Pv (i + 1), bk := D.nx } σ2 H2) (hd : ∀ σ H, Pv xs.length σ H → D.nx σ H) :
    ∃ W : Nat → Nat → St → Hp → Prop, (∃ m, W 0 m σ H) ∧ ∀ i m σ H, W i m σ H →
      ((Itrt K a xs.length).stop i H ∧ D.nx σ H) ∨ ((Itrt K a xs.length).go i H ∧ ∃ N : St → Hp → Prop, (∀ σ' H', N σ' H' → ∃ m', m' < m ∧ W (i + 1) m' σ' H') ∧ ∀ x H', (Itrt K a xs.length).yld i H x H' → g x σ H' fun σ2 H2 => tb { D with nx := N, ct := N, bk := D.nx } σ2 H2) := by
  refine ⟨fun i m σ H => m = xs.length - i ∧ i ≤ xs.length ∧ Pv i σ H, ⟨xs.length, by simp, Nat.zero_le _, h0⟩, ?_⟩
  rintro i m σ H ⟨rfl, hi, p⟩
  have q := hl i σ H hi p
  by_cases hlt : i < xs.length
  · refine .inr ⟨⟨xs, q, rfl, hlt⟩, Pv (i + 1), fun σ' H' p' => ⟨xs.length - (i + 1), by omega, rfl, hlt, p'⟩, fun x H' y => ?_⟩
    obtain ⟨e, y⟩ := y
    subst e
    exact hs i x σ _ (rev_at hlt (y xs q)) p
  · have e : i = xs.length := by omega
    subst e
    exact .inl ⟨rfl, hd σ H p⟩

def tListRev (ta : TA) : TE := fun σ H Q => ta σ H fun vs H1 => ∃ a xs, vs = [.ref a] ∧ Rd H1 a (.lst xs) ∧ ∀ l, H1 l = none → Q (.ref l) (upd H1 l (.lst xs.reverse))
end L2


set_option linter.all false
set_option maxRecDepth 100000
set_option maxHeartbeats 4000000
namespace FR
open PySem L2

inductive RowsG (g : Gram) : List Str → List Nat → Prop
  | nil : RowsG g [] []
  | cons {ns : List Str} {k : Nat} {r : Rule} {row : List Nat} : g[k]? = some r → RowsG g (unQ r.2.1 ++ ns) row → RowsG g (r.1 :: ns) (k :: row)
structure EnOk (g : Gram) (e : Sz) : Prop where
  nd : (e.map (·.1)).Nodup
  ent : ∀ (i : Nat) (z : Str) (k : Int), e[i]? = some (z, k) → ∃ r, 0 ≤ k ∧ g[k.toNat]? = some r ∧ r.1 = z ∧ ∀ p ∈ r.2.1, isQ p = false → p ∈ (e.take i).map (·.1)
def InK (e : Sz) (r : Rule) : Prop := ∀ p ∈ r.2.1, isQ p = false → p ∈ e.map (·.1)
def ClosedG (g : Gram) (e : Sz) : Prop := ∀ r ∈ g, InK e r → r.1 ∈ e.map (·.1)
theorem look_some {s : Sz} {z : Str} (h : z ∈ s.map (·.1)) : ∃ v, look s z = some v := by
  cases e : look s z with
  | some v => exact ⟨v, rfl⟩
  | none => exact absurd h (look_none e)
theorem EnOk.nil (g : Gram) : EnOk g [] := ⟨List.nodup_nil, fun i z k e => by cases e⟩
theorem EnOk.snoc {g : Gram} {e : Sz} (h : EnOk g e) {r : Rule} {k : Nat} (hr : g[k]? = some r) (hin : InK e r) (hn : ¬ r.1 ∈ e.map (·.1)) : EnOk g (e ++ [(r.1, (k : Int))]) := by
  refine ⟨?_, fun i z k' he => ?_⟩
  · rw [List.map_append]
    exact nd_snoc h.nd hn
  · by_cases hi : i < e.length
    · rw [List.getElem?_append_left hi] at he
      obtain ⟨r', h1, h2, h3, h4⟩ := h.ent i z k' he
      refine ⟨r', h1, h2, h3, fun p hp hq => ?_⟩
      rw [List.take_append_of_le_length (by omega)]
      exact h4 p hp hq
    · have hi2 : i = e.length := by
        have := (List.getElem?_eq_some_iff.mp he).1
        rw [List.length_append] at this
        simp at this
        omega
      subst hi2
      rw [List.getElem?_append_right (Nat.le_refl _), Nat.sub_self] at he
      cases he
      refine ⟨r, Int.natCast_nonneg _, by rw [Int.toNat_natCast]; exact hr, rfl, fun p hp hq => ?_⟩
      rw [List.take_append_of_le_length (Nat.le_refl _), List.take_length]
      exact hin p hp hq

def rank : Sz → Str → Nat
  | [], _ => 0
  | p :: s, z => if p.1 = z then 0 else rank s z + 1
def wt (e : Sz) (z : Str) : Nat := 7 ^ (rank e z + 1)
def wts (e : Sz) (zs : List Str) : Nat := (zs.map (wt e)).sum
def openB (g : Gram) (e : Sz) (z : Str) (k : Nat) : Bool := match g[k]? with
  | none => false
  | some r => decide (r.1 = z) && r.2.1.all fun p => isQ p || (look e p).isSome
def openL (g : Gram) (e : Sz) (z : Str) (n : Nat) : List Nat := (List.range n).filter (openB g e z)
theorem openL_mem {g : Gram} {e : Sz} {z : Str} {n k : Nat} (h : k ∈ openL g e z n) : ∃ r, g[k]? = some r ∧ r.1 = z ∧ InK e r := by
  obtain ⟨_, hb⟩ := List.mem_filter.mp h
  unfold openB at hb
  cases hr : g[k]? with
  | none => rw [hr] at hb; cases hb
  | some r =>
    rw [hr] at hb
    have hb : (decide (r.1 = z) && r.2.1.all fun p => isQ p || (look e p).isSome) = true := hb
    rw [Bool.and_eq_true, decide_eq_true_eq] at hb
    refine ⟨r, rfl, hb.1, fun p hp hq => ?_⟩
    have := List.all_eq_true.mp hb.2 p hp
    rw [hq, Bool.false_or] at this
    obtain ⟨v, hv⟩ := Option.isSome_iff_exists.mp this
    exact List.mem_map.mpr ⟨_, look_mem hv, rfl⟩
theorem openL_of {g : Gram} {e : Sz} {z : Str} {k : Nat} {r : Rule} (hr : g[k]? = some r) (hz : r.1 = z) (hin : InK e r) : k ∈ openL g e z g.length := by
  have hlt := (List.getElem?_eq_some_iff.mp hr).1
  refine List.mem_filter.mpr ⟨List.mem_range.mpr hlt, ?_⟩
  unfold openB
  rw [hr]
  show (decide (r.1 = z) && r.2.1.all fun p => isQ p || (look e p).isSome) = true
  rw [decide_eq_true hz, Bool.true_and, List.all_eq_true]
  intro p hp
  cases hq : isQ p with
  | true => rfl
  | false =>
    obtain ⟨v, hv⟩ := look_some (hin p hp hq)
    rw [hv]
    rfl
end FR


set_option linter.all false
set_option maxRecDepth 100000
set_option maxHeartbeats 4000000
namespace L2
open PySem PySem.Spec PyProof.Rows
section
variable {prog : Program} {w : World} {A : Around} {E : Value → Shared → Prop} {s : Shared}
end

def IteT (K : PySem.W.Frag) (a : Addr) : It :=
  ⟨fun i H => ∃ xs x, SqT K H a xs ∧ xs[i]? = some x, fun i H v H' => ∃ T, H T = none ∧ v = .ref T ∧ ∀ xs, SqT K H a xs → ∃ x, xs[i]? = some x ∧ H' = upd H T (.tup [.int i, x]), fun i H => ∃ xs, SqT K H a xs ∧ xs.length = i⟩
section
variable {X : Cx} {elts : List Expr} {k : Nat} {tpos : Pos}
def iEnumT (K : PySem.W.Frag) (ta : TA) : TI := fun σ H R => ta σ H fun vs H1 => ∃ a, vs = [.ref a] ∧ (∃ xs, SqT K H1 a xs) ∧ R (IteT K a) H1
end
end L2


set_option linter.all false
set_option maxRecDepth 100000
set_option maxHeartbeats 4000000
namespace L2
open PySem PySem.Spec PyProof.Rows
theorem rv_nolen : typeLookup (.type "reversed") "__len__" = pure none := by rw [typeLookup_type, builtinLookup_eq_fast]; kernel_rfl
theorem rv_hint : typeLookup (.type "reversed") "__length_hint__" = pure (some (.builtin "reversed.__length_hint__")) := by rw [typeLookup_type, builtinLookup_eq_fast]; kernel_rfl
theorem rv_slotH : Slot "reversed" "__length_hint__" "reversed.__length_hint__" := .of (owner := "reversed") (n := "__length_hint__") (by rw [typeLookup_type, builtinLookup_eq_fast]; kernel_rfl) (by decide +kernel) (by decide +kernel) (by decide +kernel) (by first | exact .inl (by decide +kernel) | exact .inr (by decide +kernel)) (by rw [isSubtype_type]; kernel_rfl)
theorem rv_entH : entryFor table "reversed.__length_hint__" = some Builtin.«reversed.__length_hint__» := entryFor_of_tree (by kernel_rfl)
theorem rv_argH (a : Value) : argsOk "reversed.__length_hint__" ⟨[a], []⟩ := by unfold argsOk; kernel_rfl
section
variable {prog : Program} {w : World} {A : Around} {E : Value → Shared → Prop} {s : Shared}
theorem walks_revT (hh : A.handled = none) (it l : Addr) (hne : l ≠ it) (items : Array Value) (hz : (items.size : Int) < 2 ^ 63) :
    Walks prog w A it [it, l] [it] items.size (fun i v => items[items.size - 1 - i]? = some v) (fun i h => RevT h it l ((items.size : Int) - 1 - i) ∧ IsTup h l items) where
  sub := fun b hb => by simp at hb; simp [hb]
  frame := fun i h h' st hk => by
    obtain ⟨⟨o, a, b, c⟩, ⟨o2, a2, b2⟩⟩ := st
    exact ⟨⟨o, hk it (by simp) o a, b, c⟩, ⟨o2, hk l (by simp) o2 a2, b2⟩⟩
  item := fun i s Q E hi st hQ => by
    have e : ((items.size : Int) - 1 - (i : Nat)) = ((items.size - 1 - i : Nat) : Int) := by omega
    rw [e] at st
    refine next_revT st.1 st.2 (x := items[items.size - 1 - i]) (by simp) hz fun h' hit' hs' => ?_
    obtain ⟨o2, a2, b2⟩ := st.2
    refine hQ _ h' (s.toks + 1) (by simp) ⟨?_, o2, (hs'.2 l hne).trans a2, b2⟩ fun b o hb q => hs'.extBut b o (fun z => hb (by simp [z])) q
    have e2 : ((items.size - 1 - i : Nat) : Int) - 1 = (items.size : Int) - 1 - ((i + 1 : Nat) : Int) := by omega
    rw [e2] at hit'
    exact hit'
  done := fun s Q E st hQ => by
    have e : ((items.size : Int) - 1 - (items.size : Nat)) = -1 := by omega
    rw [e] at st
    exact end_revT hh st.1 fun h' he' => hQ h' s.toks fun b o hb q => he' b o (fun z => hb (by simp [z])) q
  self := fun _ _ _ _ st hQ => iter_revT st.1 hQ
theorem call_hintT {it l : Addr} {items : Array Value} {Q : Value → Shared → Prop} (hit : RevT s.heap it l ((items.size : Int) - 1)) (hl : IsTup s.heap l items) (hz : (items.size : Int) < 2 ^ 63)
    (h : ∀ t tk, Q (.int (items.size : Int) t) { s with toks := tk }) : wpAny (model prog w) A (call (.builtin "reversed.__length_hint__") [.ref it]) Q E s := by
  obtain ⟨o, ho, hc, hd⟩ := id hit
  have hT : s.TypeIs (.ref it) "reversed" := ⟨o, ho, hc⟩
  refine wpAny_call_entry rv_slotH hT rv_entH ?_ (rv_argH _)
  unfold Builtin.«reversed.__length_hint__»
  refine wpAny_bind (wpAny_pure (wpAny_bind (wpAny_field ho hd (x := .ref l) rfl ?_)))
  refine (show wpAny _ _ (if (Value.ref l == Value.none) = true then _ else _) _ _ s from ?_)
  rw [if_neg (show ¬ (Value.ref l == Value.none) = true from Bool.false_ne_true)]
  refine wpAny_bind (len_tuple hl hz ?_)
  refine wpAny_bind (wpAny_pure (wpAny_bind (wpAny_field (s := { s with toks := s.toks + 1 + 1 }) ho hd (x := .int ((items.size : Int) - 1) 0) rfl ?_)))
  refine (show wpAny _ _ (if (items.size : Int) < (items.size : Int) - 1 + 1 then _ else _) _ _ _ from ?_)
  rw [if_neg (by omega)]
  have e : (items.size : Int) - 1 + 1 = (items.size : Int) := by omega
  rw [e]
  exact wpAny_bind (wpAny_mkInt (wpAny_pure ⟨_, rfl, h _ _⟩))
theorem hint_revT {it l : Addr} {items : Array Value} {Q : Bool → Shared → Prop} (hit : RevT s.heap it l ((items.size : Int) - 1)) (hl : IsTup s.heap l items) (hz : items.size ≤ sizeLine) (h : ∀ b tk, Q b { s with toks := tk }) :
    wpAny (model prog w) A (Builtin.List.listLengthHint (.ref it)) Q E s := by
  obtain ⟨o, ho, hc, hd⟩ := id hit
  have hT : s.TypeIs (.ref it) "reversed" := ⟨o, ho, hc⟩
  unfold Builtin.List.listLengthHint
  refine wpAny_bind (wpAny_specialOf hT rv_nolen ?_)
  show wpAny _ _ (specialOf (Value.ref it) (Str.ofString "__length_hint__") >>= _) _ _ _
  refine wpAny_bind (wpAny_specialOf hT rv_hint ?_)
  generalize hid : ("reversed.__length_hint__" : String) = id0
  wp_delta; rw [show splitId id0 = some ("reversed", "__length_hint__") from by subst hid; decide +kernel]; subst hid
  refine wpAny_bind (wpAny_isInstance (T := "reversed") (b := true) hT (by rw [isSubtype_type]; kernel_rfl) ?_)
  rw [if_neg (by decide)]
  refine (show wpAny _ _ (if _ then _ else _) _ _ _ from ?_)
  rw [if_neg (by decide)]
  refine wpAny_bind (wpAny_rule (wpAny_bind (wpAny_of_eq (rv_slotH.bind (.ref it)) ?_)))
  refine wpAny_bind (wpAny_attempt (call_hintT hit hl (by rw [sizeLine_eq] at hz; omega) fun t tk => ?_))
  have f1 : Builtin.List.listFitsIndex (items.size : Int) = true := by
    unfold Builtin.List.listFitsIndex
    rw [sizeLine_eq] at hz
    rw [Bool.and_eq_true, decide_eq_true_eq, decide_eq_true_eq]
    omega
  have f2 : Builtin.List.listTooLong (items.size : Int).toNat = false := by
    unfold Builtin.List.listTooLong
    exact decide_eq_false (by rw [Int.toNat_natCast]; omega)
  have f3 : ¬ (items.size : Int) < 0 := by omega
  revert f1 f2 f3
  generalize (items.size : Int) = n
  intro f1 f2 f3
  refine (show wpAny _ _ (asInt? (.int n t) >>= _) _ _ _ from wpAny_bind (wpAny_pure ?_))
  refine wpAny_ite_split (fun z => absurd z (by rw [f1]; decide)) fun _ => ?_
  refine wpAny_ite_split (fun z => absurd z f3) fun _ => ?_
  refine wpAny_ite_split (fun z => absurd z (by rw [f2]; decide)) fun _ => ?_
  exact wpAny_pure (h _ _)

theorem call_list_revT {it l : Addr} {items : Array Value} {Q : Value → Shared → Prop} (hh : A.handled = none) (hit : RevT s.heap it l ((items.size : Int) - 1)) (hl : IsTup s.heap l items) (hne : l ≠ it) (hn : items.size ≤ sizeLine)
    (hQ : ∀ h' tk acc' c', (∀ b o, b ≠ it → s.heap.get? b = some o → h'.get? b = some o) → h'.get? s.heap.objs.size = some { cls := .type "list", dict := none, data := .seq acc' c', slots := #[] } →
      ItemsOf (fun i v => items[items.size - 1 - i]? = some v) acc' items.size → Q (.ref s.heap.objs.size) { s with heap := h', toks := tk }) : wpAny (model prog w) A (call (.type "list") [.ref it]) Q E s := by
  have itlt : it < s.heap.objs.size := by obtain ⟨o, ho, _⟩ := hit; exact Heap.lt_size ho
  have llt : l < s.heap.objs.size := hl.lt
  have hz63 : (items.size : Int) < 2 ^ 63 := by rw [sizeLine_eq] at hn; omega
  refine callType_codes (Q₁ := fun obj t => obj = .ref s.heap.objs.size ∧ t = { s with heap := s.heap.push { cls := .type "list", data := .seq #[] } }) F.called_list (F.typeCall_list_1 _) F.entry_list_init (code_list_new _ ⟨rfl, rfl⟩) fun obj t ht => ?_
  obtain ⟨rfl, rfl⟩ := ht
  have g0 : (s.heap.push { cls := .type "list", data := .seq #[] }).get? s.heap.objs.size = some { cls := .type "list", data := .seq #[] } := Heap.get?_push_size _ rfl
  refine ⟨⟨_, g0, rfl⟩, F.args_list_init_2 _ _, ?_⟩
  show wpAny _ _ (Builtin.List.listItems (.ref s.heap.objs.size) >>= fun old => Builtin.List.listUpdate (.ref s.heap.objs.size) (fun _ => #[]) >>= fun _ => letGo old.toList.reverse >>= fun _ => Builtin.List.listExtendWith (.ref s.heap.objs.size) (.ref it) .none) _ _ _
  refine wpAny_bind ?_
  unfold Builtin.List.listItems
  refine wpAny_bind (wpAny_seqItems g0 rfl (wpAny_pure ?_))
  refine wpAny_bind (show wpAny _ _ (updateSeq s.heap.objs.size (fun _ => #[])) _ _ _ from wpAny_updateSeq g0 rfl ?_)
  have g1 := Heap.get?_update_self (Obj.mapSeq (fun _ => (#[] : Array Value))) g0 rfl
  have k1 : ∀ b o, s.heap.get? b = some o → ((s.heap.push { cls := .type "list", data := .seq #[] }).update s.heap.objs.size (Obj.mapSeq (fun _ => (#[] : Array Value)))).get? b = some o := fun b o e =>
    (Heap.get?_update_other _ _ (Nat.ne_of_gt (Heap.lt_size e))).trans (Heap.get?_push_of_some _ e)
  have tup_at : ∀ {h1 : Heap}, (∀ b o, s.heap.get? b = some o → h1.get? b = some o) → RevT h1 it l ((items.size : Int) - 1) ∧ IsTup h1 l items := fun {h1} k => by
    obtain ⟨o, ho, r⟩ := hit
    obtain ⟨o2, ho2, r2⟩ := hl
    exact ⟨⟨o, k it o ho, r⟩, ⟨o2, k l o2 ho2, r2⟩⟩
  refine wpAny_bind (wpAny_letGo ?_)
  revert g1 k1
  generalize (s.heap.push { cls := .type "list", data := .seq #[] }).update s.heap.objs.size (Obj.mapSeq (fun _ => (#[] : Array Value))) = h1
  intro g1 k1
  obtain ⟨hit1, hl1⟩ := tup_at k1
  have hT : Shared.TypeIs { s with heap := h1 } (.ref it) "reversed" := by obtain ⟨o, ho, hc, _⟩ := hit1; exact ⟨o, ho, hc⟩
  have W := (walks_revT (prog := prog) (w := w) (A := A.in1.in1) hh it l hne items hz63).toS
  have nf : s.heap.objs.size ∉ [it, l] := by simp only [List.mem_cons, List.not_mem_nil, or_false, not_or]; exact ⟨Nat.ne_of_gt itlt, Nat.ne_of_gt llt⟩
  have key : ∀ (h2 : Heap) (c1 tk : Nat), (∀ b o, s.heap.get? b = some o → h2.get? b = some o) → h2.get? s.heap.objs.size = some { cls := .type "list", data := .seq #[] c1 } →
      codeAny (model prog w) A.in1 (.builtin "list.extend.loop" ⟨[.ref s.heap.objs.size, .ref it, .none], []⟩) (wants (fun r s₂ => r = Value.none ∧ Q (Value.ref s.heap.objs.size) s₂) E) { s with heap := h2, toks := tk } := by
    intro h2 c1 tk k2 g2
    obtain ⟨hit2, hl2⟩ := tup_at k2
    refine codeAny_extend_loopS W hn _ nf _ items.size 0 _ _ _ rfl (Nat.zero_le _) ⟨by simpa using hit2, hl2⟩ g2 (ItemsOf.nil _) fun s' acc' c' hm hS' hacc => ?_
    rw [Moved.eq_with hm]
    refine ⟨rfl, hQ s'.heap s'.toks acc' c' (fun b o hb e => hm.heap b o (fun hmem => ?_) (k2 b o e)) hS' hacc⟩
    rcases List.mem_cons.mp hmem with z | hmem
    · rw [z] at e; exact Nat.lt_irrefl _ (Heap.lt_size e)
    · exact hb (List.mem_singleton.mp hmem)
  unfold Builtin.List.listExtendWith
  refine wpAny_bind (wpAny_typeOf hT ?_)
  have ns : Builtin.List.listSameRef (.ref s.heap.objs.size) (.ref it) = false := by simp [Builtin.List.listSameRef, Nat.ne_of_gt itlt]
  rw [if_neg (by rw [ns]; decide)]
  refine wpAny_bind (iter_revT hit1 (wpAny_bind (wpAny_holding (hint_revT hit1 hl1 hn fun b tk => ?_))))
  refine wpAny_ite_split (fun _ => ?_) (fun _ => wpAny_pure ⟨plainId_quiet F.plain_extend_loop _, key h1 _ _ k1 g1⟩)
  refine wpAny_bind (wpAny_rule (wpAny_bind ?_))
  refine (show wpAny _ _ (updateSeq s.heap.objs.size (·.push .none) >>= fun _ => updateSeq s.heap.objs.size (·.pop)) _ _ _ from ?_)
  refine wpAny_bind (wpAny_updateSeq g1 rfl ?_)
  have g2 := Heap.get?_update_self (Obj.mapSeq (·.push Value.none)) g1 rfl
  refine wpAny_updateSeq (hz := by seq_fits) g2 rfl ?_
  have g3 := Heap.get?_update_self (Obj.mapSeq (·.pop)) g2 rfl
  refine wpAny_pure ⟨plainId_quiet F.plain_extend_loop _, key _ _ _ (fun b o e => ?_) g3⟩
  have nb : s.heap.objs.size ≠ b := Nat.ne_of_gt (Heap.lt_size e)
  exact (Heap.get?_update_other _ _ nb).trans ((Heap.get?_update_other _ _ nb).trans (k1 b o e))
end
def tListRevT (K : PySem.W.Frag) (ta : TA) : TE := fun σ H Q => ta σ H fun vs H1 => ∃ a xs, vs = [.ref a] ∧ SqT K H1 a xs ∧ ∀ l, H1 l = none → Q (.ref l) (upd H1 l (.lst xs.reverse))
theorem pe_list_revT (K : PySem.W.Frag) {X : Cx} (hK : X.K = K) {a : Expr} {ta : TA} {p p2 pos pos2 : Pos} (hc : X.calm = true) (hg : Gl X "list") (hm : X.mg "list" = none) (hg2 : Gl X "reversed") (hm2 : X.mg "reversed" = none) (ha : PA X [a] ta)
    (hs : starEach [.Call (.Name "reversed" p2) [a] [] pos2] X.env = [(false, eval (.Call (.Name "reversed" p2) [a] [] pos2) X.env)] := by rfl) (hs2 : starEach [a] X.env = [(false, eval a X.env)] := by rfl) :
    PE X (.Call (.Name "list" p) [.Call (.Name "reversed" p2) [a] [] pos2] [] pos) (tListRevT K ta) := by
  subst hK
  intro pins s σ H Q I h
  refine wpAny_Call_Name_kw (ld_blt I hg hm PyProof.Rows.Boot.«list» ?_)
  refine PyProof.Rows.callWith_type1 ?_ hs rfl
  rw [hs]
  show wpAny _ _ (spliced ((false, eval (.Call (.Name "reversed" p2) [a] [] pos2) X.env) :: [])) _ _ s
  refine Calls.spliced_cons (wpAny_Call_Name_kw (ld_blt I hg2 hm2 PyProof.Rows.Boot.«reversed» (PyProof.Rows.callWith_type1 (thn (ha pos2 pins s σ H _ I h) fun us s1 ⟨vs, H1, I1, r1, q1⟩ => ?_) hs2 rfl)))
  obtain ⟨l, xs, rfl, hq, q⟩ := q1
  obtain ⟨u, rfl, ru⟩ := vals1 r1
  cases ru
  obtain ⟨its, rv, pl, hz⟩ := I1.tuple hq
  have hlen : xs.length = its.length := rv.length
  have hn63 := line63
  refine call_rev_tuple pl (by rw [List.size_toArray]; omega) fun h1 hit hk => Calls.spliced_nil ?_
  have pl1 : IsTup h1 l its.toArray := by obtain ⟨o, ho, r⟩ := pl; exact ⟨o, hk l o ho, r⟩
  refine call_list_revT (s := { s1 with heap := h1, toks := s1.toks + 1 + 1 }) (items := its.toArray) (I1.ok.hd hc) hit pl1 (Nat.ne_of_lt pl.lt) (by rw [List.size_toArray]; omega) fun h' tk acc' c' hk' hS hit' => ?_
  have rv' : Vals xs.reverse acc'.toList := by
    refine vals_of (by
      have e1 : acc'.toList.length = its.length := (Array.length_toList.trans hit'.1).trans (List.size_toArray ..)
      rw [List.length_reverse, hlen, e1]) fun j x u h1 h2 => ?_
    have h3 := hit'.2 j u (by rw [← Array.getElem?_toList]; exact h2)
    have hj : j < xs.length := by
      have := (List.getElem?_eq_some_iff.mp h1).1
      rwa [List.length_reverse] at this
    rw [List.getElem?_reverse hj] at h1
    obtain ⟨u', e1, r'⟩ := rv.get h1
    rw [List.getElem?_toArray, List.size_toArray, ← hlen] at h3
    rw [h3] at e1
    cases e1
    exact r'
  have le : s1.heap.objs.size ≤ h1.objs.size := by
    obtain ⟨o, ho, _⟩ := hit
    exact Nat.le_of_lt (Heap.lt_size ho)
  have kk : ∀ b u, s1.heap.get? b = some u → h'.get? b = some u := fun b u e => hk' b u (Nat.ne_of_lt (Heap.lt_size e)) (hk b u e)
  exact ⟨.ref h1.objs.size, _, I1.laid (t' := tk) kk le (show ObjOk X.prog X.w _ h' _ (.lst _) from ⟨by rw [List.length_reverse]; exact hz, acc'.toList, c', rv', by simpa using hS⟩), rfl, q _ (I1.hok.fresh le)⟩
end L2


set_option linter.all false
set_option maxRecDepth 100000
set_option maxHeartbeats 4000000
namespace FR
open PySem L2
def nV (k : Nat) : V := .int (k : Int)
def chV (c : Nat) : V := .str ⟨#[c]⟩
theorem rule_parts {r : Rule} (h : okRule r = true) : r.2.1.length ≤ 6 ∧ ∀ p ∈ r.2.1, isPartS p = true := by
  unfold okRule at h
  simp only [Bool.and_eq_true, decide_eq_true_eq] at h
  exact ⟨h.2.1.1, List.all_eq_true.mp h.2.1.2⟩
theorem rule_head {r : Rule} (h : okRule r = true) : isNameS r.1 = true := by
  unfold okRule at h
  rw [Bool.and_eq_true] at h
  exact h.1
theorem decS {x y : Str} : decide (V.str x = V.str y) = decide (x = y) := by
  by_cases h : x = y
  · rw [decide_eq_true h, decide_eq_true (by rw [h])]
  · rw [decide_eq_false h, decide_eq_false (fun e => h (V.str.inj e))]
theorem isQ_code (z : Str) : isQ z = decide (z.cps.toList[0]? = some 39) := by
  have e0 : (("'" : Str)) = ⟨#[39]⟩ := by decide +kernel
  unfold isQ
  rw [e0, Bool.eq_iff_iff, decide_eq_true_eq]
  have := StrLaws.subAt_one z 39 0
  unfold Txt.startswith
  rw [Bool.and_eq_true, decide_eq_true_eq]
  exact this
theorem part_first {p : Str} (h : isPartS p = true) : ∃ c, atI p.cps.toList 0 = some c ∧ p.length ≤ 8 ∧ decide (V.str ⟨#[c]⟩ = V.str "'") = isQ p := by
  have h8 := part_len h
  have h1 : 0 < p.cps.toList.length := by
    rw [Array.length_toList]
    unfold isPartS at h
    rw [Bool.or_eq_true] at h
    rcases h with h | h
    · unfold isSignS at h
      rw [Bool.and_eq_true, Bool.and_eq_true] at h
      have : p.cps.size = 2 := eq_of_beq h.1.1
      omega
    · unfold isNameS at h
      rw [Bool.and_eq_true, Bool.and_eq_true] at h
      have : 1 ≤ p.cps.size := of_decide_eq_true h.1.1
      omega
  have e : p.cps.toList[0]? = some p.cps.toList[0] := List.getElem?_eq_getElem h1
  refine ⟨p.cps.toList[0], atI_nat (j := 0) e, h8, ?_⟩
  rw [isQ_code, e, decS]
  have e0 : (("'" : Str)) = ⟨#[39]⟩ := by decide +kernel
  rw [e0]
  by_cases hc : p.cps.toList[0] = 39
  · rw [decide_eq_true (by rw [hc]), decide_eq_true (by rw [hc])]
  · rw [decide_eq_false (fun z => hc (by injection z with z; simpa using z)), decide_eq_false (fun z => hc (Option.some.inj z))]
theorem sign_second {p : Str} (h : isPartS p = true) (hq : isQ p = true) : atI p.cps.toList 1 = some (sgn p) := by
  unfold isPartS at h
  rw [Bool.or_eq_true] at h
  rcases h with h | h
  · unfold isSignS at h
    rw [Bool.and_eq_true, Bool.and_eq_true] at h
    have h2 : p.cps.size = 2 := eq_of_beq h.1.1
    have h1 : 1 < p.cps.toList.length := by rw [Array.length_toList]; omega
    have e : p.cps.toList[1]? = some p.cps.toList[1] := List.getElem?_eq_getElem h1
    have e2 : sgn p = p.cps.toList[1] := by
      unfold sgn
      rw [Array.getD_eq_getD_getElem?, ← Array.getElem?_toList, e]
      rfl
    rw [e2]
    exact atI_nat (j := 1) e
  · rw [isQ_code] at hq
    have hq := of_decide_eq_true hq
    unfold isNameS at h
    rw [Bool.and_eq_true] at h
    exact absurd (List.all_eq_true.mp h.2 39 (List.mem_of_getElem? hq)) (by decide)
theorem name_noQ {z : Str} (h : isNameS z = true) : isQ z = false := by
  rw [isQ_code]
  refine decide_eq_false fun e => ?_
  unfold isNameS at h
  rw [Bool.and_eq_true] at h
  exact absurd (List.all_eq_true.mp h.2 39 (List.mem_of_getElem? e)) (by decide)
theorem name_partB {z : Str} (h : isNameS z = true) : isPartS z = true := by
  unfold isPartS
  rw [h, Bool.or_true]
theorem rule_okB {g : Gram} {r : Rule} {i : Nat} (hg : okGram g = true) (er : g[i]? = some r) : okRule r = true := by
  unfold okGram at hg
  rw [Bool.and_eq_true] at hg
  exact List.all_eq_true.mp hg.2 r (List.mem_of_getElem? er)

theorem rule_num {H : Hp} {xs : List V} {g : Gram} (hds : Dens H xs (g.map ruleD)) {k : Nat} {r : Rule} (er : g[k]? = some r) : ∃ t p, atI xs (k : Int) = some (.ref t) ∧ H t = some (.tup [.str r.1, .ref p, .int r.2.2]) ∧ H p = some (.tup (r.2.1.map V.str)) := by
  have hxl : xs.length = g.length := by rw [hds.len, List.length_map]
  have hkx : k < xs.length := by rw [hxl]; exact (List.getElem?_eq_some_iff.mp er).1
  have hix : xs[k]? = some xs[k] := List.getElem?_eq_getElem hkx
  obtain ⟨r', t, p, er', ey', ht, hpp⟩ := rule_at hds hix
  rw [er] at er'
  cases er'
  exact ⟨t, p, by rw [← ey']; exact atI_nat hix, ht, hpp⟩
theorem dens_nats {H : Hp} (ks : List Nat) : Dens H (ks.map nV) ((ks.map fun k : Nat => (k : Int)).map D.int) := by
  have e : ks.map nV = (ks.map fun k : Nat => (k : Int)).map V.int := by rw [List.map_map]; rfl
  rw [e]
  exact Dens.ints _

structure RdEnv (H : Hp) (l ro : Addr) (xs ys : List V) (g : Gram) (ds : List D) : Prop where
  hl : H l = some (.lst xs)
  hds : Dens H xs (g.map ruleD)
  hg : okGram g = true
  hro : Rd H ro (.lst ys)
  hys : Dens H ys ds
  hsh : ∀ d ∈ ds, d.short = true
  hlen : ds.length ≤ 2000
theorem rd_sameB {H H' : Hp} {a : Addr} {o : HO} (h : Rd H a o) (s : Same H H') : Rd H' a o := by
  rcases h with h | ⟨u, h⟩
  · exact .inl (s _ _ h)
  · exact .inr ⟨u, s _ _ h⟩
theorem RdEnv.same {H H' : Hp} {l ro : Addr} {xs ys : List V} {g : Gram} {ds : List D} (h : RdEnv H l ro xs ys g ds) (s : Same H H') : RdEnv H' l ro xs ys g ds := ⟨s _ _ h.hl, h.hds.same s, h.hg, rd_sameB h.hro s, h.hys.same s, h.hsh, h.hlen⟩
def fldR (l ro a1 a2 a3 : Addr) : List (Str × V) := [("rules", .ref l), ("row", .ref ro), ("signs", .ref a1), ("begins", .ref a2), ("stops", .ref a3)]
def fR1 (l : Addr) : List (Str × V) := [("rules", .ref l)]
def fR2 (l ro : Addr) : List (Str × V) := [("rules", .ref l), ("row", .ref ro)]
def fR3 (l ro a1 : Addr) : List (Str × V) := [("rules", .ref l), ("row", .ref ro), ("signs", .ref a1)]
def fR4 (l ro a1 a2 : Addr) : List (Str × V) := [("rules", .ref l), ("row", .ref ro), ("signs", .ref a1), ("begins", .ref a2)]
theorem put_R1 (l : Addr) : putF "rules" (.ref l) [] = fR1 l := rfl
theorem put_R2 (l ro : Addr) : putF "row" (.ref ro) (fR1 l) = fR2 l ro := rfl
theorem put_R3 (l ro a1 : Addr) : putF "signs" (.ref a1) (fR2 l ro) = fR3 l ro a1 := rfl
theorem put_R4 (l ro a1 a2 : Addr) : putF "begins" (.ref a2) (fR3 l ro a1) = fR4 l ro a1 a2 := rfl
theorem put_R5 (l ro a1 a2 a3 : Addr) : putF "stops" (.ref a3) (fR4 l ro a1 a2) = fldR l ro a1 a2 a3 := rfl

structure RdSt (C : Addr) (H0 H : Hp) (x l ro a1 a2 a3 : Addr) (rd : Rdg) : Prop where
  sm : Same H0 H
  pl : Plain H
  x_ : ∃ dx, H0 x = some (.ins C dx (fldR l ro a1 a2 a3))
  n1 : H0 a1 = none
  n2 : H0 a2 = none
  n3 : H0 a3 = none
  d12 : a1 ≠ a2
  d13 : a1 ≠ a3
  d23 : a2 ≠ a3
  e1 : H a1 = some (.lst (rd.sg.map chV))
  e2 : H a2 = some (.lst (rd.bg.map nV))
  e3 : H a3 = some (.lst (rd.st.map nV))

def nextR (g : Gram) (ds : List D) (n : Nat) (z : Str) : Option (Nat × Rule) := match ds[n]? with
  | some (.int i) => if 0 ≤ i then (match g[i.toNat]? with
    | some r => if r.1 = z then some (i.toNat, r) else none
    | none => none) else none
  | _ => none
theorem RdSt.put {C : Addr} {H0 H : Hp} {x l ro a1 a2 a3 : Addr} {rd : Rdg} (st : RdSt C H0 H x l ro a1 a2 a3 rd) {b : Addr} {o : HO} (h0 : H0 b = none) (b1 : b ≠ a1) (b2 : b ≠ a2) (b3 : b ≠ a3) (po : plainH o = true) : RdSt C H0 (upd H b o) x l ro a1 a2 a3 rd :=
  ⟨st.sm.put h0, st.pl.upd po, st.x_, st.n1, st.n2, st.n3, st.d12, st.d13, st.d23, by rw [upd_ne b1.symm]; exact st.e1, by rw [upd_ne b2.symm]; exact st.e2, by rw [upd_ne b3.symm]; exact st.e3⟩
theorem RdSt.new {C : Addr} {H0 H : Hp} {x l ro a1 a2 a3 : Addr} {rd : Rdg} (st : RdSt C H0 H x l ro a1 a2 a3 rd) {b : Addr} {o : HO} (h0 : H b = none) (po : plainH o = true) : RdSt C H0 (upd H b o) x l ro a1 a2 a3 rd :=
  st.put (st.sm.free h0) (fun e => by rw [e, st.e1] at h0; cases h0) (fun e => by rw [e, st.e2] at h0; cases h0) (fun e => by rw [e, st.e3] at h0; cases h0) po
theorem RdSt.set1 {C : Addr} {H0 H : Hp} {x l ro a1 a2 a3 : Addr} {rd : Rdg} (st : RdSt C H0 H x l ro a1 a2 a3 rd) (sg : List Nat) : RdSt C H0 (upd H a1 (.lst (sg.map chV))) x l ro a1 a2 a3 ⟨sg, rd.bg, rd.st⟩ :=
  ⟨st.sm.put st.n1, st.pl.upd rfl, st.x_, st.n1, st.n2, st.n3, st.d12, st.d13, st.d23, upd_same, by rw [upd_ne st.d12.symm]; exact st.e2, by rw [upd_ne st.d13.symm]; exact st.e3⟩
theorem RdSt.set2 {C : Addr} {H0 H : Hp} {x l ro a1 a2 a3 : Addr} {rd : Rdg} (st : RdSt C H0 H x l ro a1 a2 a3 rd) (bg : List Nat) : RdSt C H0 (upd H a2 (.lst (bg.map nV))) x l ro a1 a2 a3 ⟨rd.sg, bg, rd.st⟩ :=
  ⟨st.sm.put st.n2, st.pl.upd rfl, st.x_, st.n1, st.n2, st.n3, st.d12, st.d13, st.d23, by rw [upd_ne st.d12]; exact st.e1, upd_same, by rw [upd_ne st.d23.symm]; exact st.e3⟩
theorem RdSt.set3 {C : Addr} {H0 H : Hp} {x l ro a1 a2 a3 : Addr} {rd : Rdg} (st : RdSt C H0 H x l ro a1 a2 a3 rd) (sp : List Nat) : RdSt C H0 (upd H a3 (.lst (sp.map nV))) x l ro a1 a2 a3 ⟨rd.sg, rd.bg, sp⟩ :=
  ⟨st.sm.put st.n3, st.pl.upd rfl, st.x_, st.n1, st.n2, st.n3, st.d12, st.d13, st.d23, by rw [upd_ne st.d13]; exact st.e1, by rw [upd_ne st.d23]; exact st.e2, upd_same⟩
theorem fin_nil0 (g : Gram) (s : Rdg) : fin g [] s [] = some s := by rw [fin]
theorem fin_nil1 (g : Gram) (s : Rdg) (d : D) (ds : List D) : fin g [] s (d :: ds) = none := by rw [fin]
theorem fin_mark (g : Gram) (k : Nat) (ws : List Wait) (s : Rdg) (ds : List D) : fin g (.inr k :: ws) s ds = fin g ws ⟨s.sg, s.bg, s.st.set k s.sg.length⟩ ds := by rw [fin]
theorem fin_sign {g : Gram} {p : Str} (hq : isQ p = true) (ws : List Wait) (s : Rdg) (ds : List D) : fin g (.inl p :: ws) s ds = fin g ws ⟨s.sg ++ [sgn p], s.bg, s.st⟩ ds := by rw [fin.eq_def]; exact if_pos hq
theorem fin_name {g : Gram} {p : Str} (hq : isQ p = false) (ws : List Wait) (s : Rdg) (ds : List D) (n : Nat) : fin g (.inl p :: ws) s (ds.drop n) = match nextR g ds n p with
    | none => none
    | some (_, r) => fin g (r.2.1.map Sum.inl ++ (Sum.inr s.bg.length :: ws)) ⟨s.sg, s.bg ++ [s.sg.length], s.st ++ [s.sg.length]⟩ (ds.drop (n + 1)) := by
  unfold nextR
  cases hd : ds[n]? with
  | none =>
    have : ds.length ≤ n := List.getElem?_eq_none_iff.mp hd
    rw [List.drop_eq_nil_of_le this, fin, hq]
    rfl
  | some d =>
    obtain ⟨hn, ed⟩ := List.getElem?_eq_some_iff.mp hd
    rw [List.drop_eq_getElem_cons hn, ed, fin, hq]
    cases d with
    | int i =>
      unfold numD
      by_cases h0 : 0 ≤ i
      · simp only [h0, if_true, Bool.false_eq_true, if_false]
        cases hg : g[i.toNat]? with
        | none => rfl
        | some r =>
          by_cases hz : r.1 = p
          · simp [hz]
          · simp [hz]
      · simp [h0]
    | _ => rfl
theorem nextR_some {g : Gram} {ds : List D} {n k : Nat} {z : Str} {r : Rule} (h : nextR g ds n z = some (k, r)) : ds[n]? = some (.int (k : Int)) ∧ g[k]? = some r ∧ r.1 = z := by
  unfold nextR at h
  split at h
  · rename_i i hi
    split at h
    · rename_i h0
      split at h
      · rename_i r' hr
        split at h
        · rename_i hz
          cases h
          refine ⟨?_, hr, hz⟩
          rw [hi]
          congr 2
          omega
        · cases h
      · cases h
    · cases h
  · cases h
theorem ixN_lt {n k : Nat} (h : k < n) : ixN n (k : Int) = some k := by
  unfold ixN
  rw [if_pos (by omega), if_pos (by omega)]
  simp
def spInit (C : Addr) : Sp := fun vs H Q _ => ∃ (H0 : Hp) (x l ro dx : Addr), vs = [.ref x, .ref l, .ref ro] ∧ H x = some (.ins C dx []) ∧ H0 x = none ∧ Same H0 H ∧ Plain H ∧
  ∀ a1 a2 a3 H', Same H0 H' → Plain H' → H' x = some (.ins C dx (fldR l ro a1 a2 a3)) → H0 a1 = none → H0 a2 = none → H0 a3 = none → a1 ≠ a2 → a1 ≠ a3 → a2 ≠ a3 → a1 ≠ x → a2 ≠ x → a3 ≠ x → H' a1 = some (.lst []) → H' a2 = some (.lst []) → H' a3 = some (.lst []) → Q .non H'
def spNext (C N : Addr) : Sp := fun vs H Q E => ∃ (H0 : Hp) (x l ro a1 a2 a3 : Addr) (xs ys : List V) (g : Gram) (ds : List D) (rd : Rdg) (z : Str), vs = [.ref x, .str z] ∧ RdSt C H0 H x l ro a1 a2 a3 rd ∧ RdEnv H0 l ro xs ys g ds ∧ rd.bg.length ≤ ds.length ∧
  (∀ k r, nextR g ds rd.bg.length z = some (k, r) → Q (.int (k : Int)) H) ∧ (nextR g ds rd.bg.length z = none → E (.ref N) none H)
def spTake (C N : Addr) : Sp := fun vs H Q E => ∃ (H0 : Hp) (x l ro a1 a2 a3 aw : Addr) (xs ys ws : List V) (g : Gram) (ds : List D) (rd : Rdg) (z : Str), vs = [.ref x, .str z, .ref aw] ∧ RdSt C H0 H x l ro a1 a2 a3 rd ∧ RdEnv H0 l ro xs ys g ds ∧ rd.bg.length ≤ ds.length ∧ rd.st.length = rd.bg.length ∧
  H aw = some (.lst ws) ∧ H0 aw = none ∧ aw ≠ a1 ∧ aw ≠ a2 ∧ aw ≠ a3 ∧ ws.length ≤ 20000 ∧
  (∀ k r H', nextR g ds rd.bg.length z = some (k, r) → RdSt C H0 H' x l ro a1 a2 a3 ⟨rd.sg, rd.bg ++ [rd.sg.length], rd.st ++ [rd.sg.length]⟩ → H' aw = some (.lst (ws ++ [nV rd.bg.length] ++ r.2.1.reverse.map V.str)) → Q .non H') ∧ (nextR g ds rd.bg.length z = none → E (.ref N) none H)
def spAll (C N : Addr) : Sp := fun vs H Q E => ∃ (H0 : Hp) (x l ro a1 a2 a3 : Addr) (xs ys : List V) (g : Gram) (ds : List D), vs = [.ref x] ∧ RdSt C H0 H x l ro a1 a2 a3 ⟨[], [], []⟩ ∧ RdEnv H0 l ro xs ys g ds ∧ g ≠ [] ∧
  (∀ rd H', fin g (startW g) ⟨[], [], []⟩ ds = some rd → RdSt C H0 H' x l ro a1 a2 a3 rd → Q .non H') ∧ (fin g (startW g) ⟨[], [], []⟩ ds = none → ∀ H', Same H0 H' → Plain H' → E (.ref N) none H')
def spReadRow (C N : Addr) : Sp := fun vs H Q E => ∃ (l : Addr) (y : V) (xs : List V) (g : Gram) (d : D), vs = [.ref l, y] ∧ H l = some (.lst xs) ∧ Dens H xs (g.map ruleD) ∧ okGram g = true ∧ Den H y d ∧ d.short = true ∧ (∀ ds, d = .lst ds → ds.length ≤ 2000) ∧ Plain H ∧
  (∀ ro ds rd x H0 H' a1 a2 a3, y = .ref ro → d = .lst ds → readG g ds = some rd → Same H H0 → RdSt C H0 H' x l ro a1 a2 a3 rd → Q (.ref x) H') ∧ (readD g d = none → ∀ H', Same H H' → Plain H' → E (.ref N) none H')
def spTextOf (CG CN : Addr) : Sp := fun vs H Q E => ∃ (x y : V) (dg d : D), vs = [x, y] ∧ Den H x dg ∧ dg.short = true ∧ Den H y d ∧ d.short = true ∧ (∀ ds, d = .lst ds → ds.length ≤ 2000) ∧ Plain H ∧
  (∀ g, dg = gramD g → okGram g = true → (∀ rd H', readD g d = some rd → Same H H' → Plain H' → Q (.str ⟨rd.sg.toArray⟩) H') ∧ (readD g d = none → ∀ H', Same H H' → Plain H' → E (.ref CN) none H')) ∧ (isGramD dg = false → ∀ H', Same H H' → Plain H' → E (.ref CG) none H')

def wOf (g : Gram) (d : D) : Int := match numD g d with
  | some r => r.2.2
  | none => 0
def spWorthOf (CG CN : Addr) : Sp := fun vs H Q E => ∃ (x y : V) (dg d : D), vs = [x, y] ∧ Den H x dg ∧ dg.short = true ∧ Den H y d ∧ d.short = true ∧ (∀ ds, d = .lst ds → ds.length ≤ 2000) ∧ Plain H ∧
  (∀ g, dg = gramD g → okGram g = true → (∀ ds rd H', d = .lst ds → readG g ds = some rd → Same H H' → Plain H' → Q (.int (ds.map (wOf g)).sum) H') ∧ (readD g d = none → ∀ H', Same H H' → Plain H' → E (.ref CN) none H')) ∧ (isGramD dg = false → ∀ H', Same H H' → Plain H' → E (.ref CG) none H')
theorem fin_nums {g : Gram} : ∀ (n : Nat) (ws : List Wait) (s rd : Rdg) (ds : List D), 8 * ds.length + ws.length ≤ n → (∀ r ∈ g, r.2.1.length ≤ 6) → fin g ws s ds = some rd → ∀ d ∈ ds, ∃ r, numD g d = some r := by
  intro n
  induction n with
  | zero =>
    intro ws s rd ds hn _ _ d hd
    have : ds = [] := List.eq_nil_of_length_eq_zero (by omega)
    rw [this] at hd
    cases hd
  | succ n ih =>
    intro ws s rd ds hn h6 hf
    cases ws with
    | nil =>
      cases ds with
      | nil => exact fun d hd => nomatch hd
      | cons d ds => rw [fin_nil1] at hf; cases hf
    | cons w ws =>
      rw [List.length_cons] at hn
      cases w with
      | inr k => rw [fin_mark] at hf; exact ih ws _ rd ds (by omega) h6 hf
      | inl p =>
        by_cases hq : isQ p = true
        · rw [fin_sign hq] at hf
          exact ih ws _ rd ds (by omega) h6 hf
        · cases ds with
          | nil => exact fun d hd => nomatch hd
          | cons d ds =>
            rw [fin.eq_def] at hf
            simp only [if_neg hq] at hf
            cases hr : numD g d with
            | none => rw [hr] at hf; cases hf
            | some r =>
              rw [hr] at hf
              simp only [] at hf
              split at hf
              · intro e he
                rcases List.mem_cons.mp he with he | he
                · rw [he]
                  exact ⟨r, hr⟩
                · refine ih _ _ rd ds ?_ h6 hf e he
                  have hm : r ∈ g := by
                    unfold numD at hr
                    split at hr
                    · split at hr
                      · exact List.mem_of_getElem? hr
                      · cases hr
                    · cases hr
                  have := h6 r hm
                  simp only [List.length_append, List.length_map, List.length_cons] at hn ⊢
                  omega
              · cases hf
theorem numD_int {g : Gram} {d : D} {r : Rule} (h : numD g d = some r) : ∃ k : Nat, d = .int (k : Int) ∧ g[k]? = some r := by
  unfold numD at h
  split at h
  · rename_i i
    split at h
    · rename_i h0
      exact ⟨i.toNat, by congr 1; omega, h⟩
    · cases h
  · cases h
theorem six {g : Gram} (hg : okGram g = true) : ∀ r ∈ g, r.2.1.length ≤ 6 := fun r hr => by
  unfold okGram at hg
  rw [Bool.and_eq_true] at hg
  exact (rule_parts (List.all_eq_true.mp hg.2 r hr)).1
theorem read_nums {g : Gram} (hg : okGram g = true) {ds : List D} {rd : Rdg} (h : readG g ds = some rd) : ∀ d ∈ ds, ∃ r, numD g d = some r := by
  unfold readG at h
  split at h
  · cases h
  · exact fin_nums _ _ _ rd ds (Nat.le_refl _) (six hg) h

inductive RowS (g : Gram) : List Str → List Nat → List Nat → Prop
  | nil : RowS g [] [] []
  | sign {p : Str} {ws : List Str} {ks sg : List Nat} : isQ p = true → RowS g ws ks sg → RowS g (p :: ws) ks (sgn p :: sg)
  | name {r : Rule} {ws : List Str} {k : Nat} {ks sg : List Nat} : isQ r.1 = false → g[k]? = some r → RowS g (r.2.1 ++ ws) ks sg → RowS g (r.1 :: ws) (k :: ks) sg
def strip : List Wait → List Str
  | [] => []
  | .inl p :: ws => p :: strip ws
  | .inr _ :: ws => strip ws
theorem strip_app (ps : List Str) (ws : List Wait) : strip (ps.map Sum.inl ++ ws) = ps ++ strip ws := by
  induction ps with
  | nil => rfl
  | cons p ps ih => show p :: strip (ps.map Sum.inl ++ ws) = p :: (ps ++ strip ws); rw [ih]
def intD (k : Nat) : D := .int (k : Int)
theorem RowS.fin {g : Gram} : ∀ (n : Nat) (ws : List Wait) (s : Rdg) (ks sg : List Nat), 8 * ks.length + ws.length ≤ n → (∀ r ∈ g, r.2.1.length ≤ 6) → RowS g (strip ws) ks sg → ∃ rd, FR.fin g ws s (ks.map intD) = some rd ∧ rd.sg = s.sg ++ sg := by
  intro n
  induction n with
  | zero =>
    intro ws s ks sg hn _ h
    have e1 : ws = [] := List.eq_nil_of_length_eq_zero (by omega)
    have e2 : ks = [] := List.eq_nil_of_length_eq_zero (by omega)
    subst e1 e2
    have h : RowS g [] [] sg := h
    cases h
    exact ⟨s, fin_nil0 _ _, by rw [List.append_nil]⟩
  | succ n ih =>
    intro ws s ks sg hn h6 h
    cases ws with
    | nil =>
      have h : RowS g [] ks sg := h
      cases h
      exact ⟨s, fin_nil0 _ _, by rw [List.append_nil]⟩
    | cons w ws =>
      rw [List.length_cons] at hn
      cases w with
      | inr k =>
        rw [fin_mark]
        exact ih ws _ ks sg (by omega) h6 h
      | inl p =>
        have h : RowS g (p :: strip ws) ks sg := h
        generalize hz : p :: strip ws = zs at h
        cases h with
        | nil => cases hz
        | @sign p' ws' ks sg' hq h =>
          cases hz
          rw [fin_sign hq]
          obtain ⟨rd, e1, e2⟩ := ih ws ⟨s.sg ++ [sgn p], s.bg, s.st⟩ ks sg' (by omega) h6 h
          exact ⟨rd, e1, by rw [e2, List.append_assoc]; rfl⟩
        | @name r ws' k ks' sg hq er h =>
          cases hz
          have := fin_name (g := g) hq ws s ((k :: ks').map intD) 0
          rw [List.drop_zero] at this
          rw [this]
          have hnx : nextR g ((k :: ks').map intD) 0 r.1 = some (k, r) := by
            unfold nextR
            show (if (0 : Int) ≤ (k : Int) then _ else none) = _
            rw [if_pos (by omega)]
            simp only [Int.toNat_natCast, er, if_true]
          rw [hnx]
          have h' : RowS g (strip (r.2.1.map Sum.inl ++ (Sum.inr s.bg.length :: ws))) ks' sg := by rw [strip_app]; exact h
          have := h6 r (List.mem_of_getElem? er)
          exact ih _ _ ks' sg (by simp only [List.length_append, List.length_map, List.length_cons] at hn ⊢; omega) h6 h'
theorem RowS.more {g h : Gram} {ws : List Str} {ks sg : List Nat} (r : RowS g ws ks sg) : RowS (g ++ h) ws ks sg := by
  induction r with
  | nil => exact .nil
  | sign hq _ ih => exact .sign hq ih
  | name hq er _ ih => exact .name hq (by rw [List.getElem?_append_left (List.getElem?_eq_some_iff.mp er).1]; exact er) ih
theorem join_codesB : ∀ ws : List Str, (Txt.join "" ws).cps.toList = (ws.map (·.cps.toList)).flatten := by
  intro ws
  show (Builtin.Str.glued "" ws).cps.toList = _
  rw [StrLaws.glued_eq_join]
  induction ws with
  | nil => rfl
  | cons w ws ih =>
    cases ws with
    | nil =>
      show w.cps.toList = _
      simp
    | cons v r =>
      show (w ++ "" ++ Str.join "" (v :: r)).cps.toList = _
      rw [app_list, app_list, ih]
      have e : (("" : Str)).cps.toList = [] := by decide +kernel
      rw [e, List.append_nil]
      rfl
theorem flat_ones : ∀ sg : List Nat, (sg.map fun c => [c]).flatten = sg
  | [] => rfl
  | c :: cs => by rw [List.map_cons, List.flatten_cons, flat_ones cs]; rfl
theorem join_ones (sg : List Nat) : Txt.join "" (sg.map fun c => (⟨#[c]⟩ : Str)) = ⟨sg.toArray⟩ := by
  have h := join_codesB (sg.map fun c => (⟨#[c]⟩ : Str))
  cases hj : Txt.join "" (sg.map fun c => (⟨#[c]⟩ : Str))
  congr 1
  apply Array.toList_inj.mp
  rw [hj] at h
  rw [h, List.map_map]
  exact flat_ones sg
theorem fin_len {g : Gram} : ∀ (n : Nat) (ws : List Wait) (s rd : Rdg) (ds : List D), 8 * ds.length + ws.length ≤ n → (∀ r ∈ g, r.2.1.length ≤ 6) → fin g ws s ds = some rd → rd.sg.length ≤ s.sg.length + ws.length + 8 * ds.length := by
  intro n
  induction n with
  | zero =>
    intro ws s rd ds hn _ hf
    have e1 : ws = [] := List.eq_nil_of_length_eq_zero (by omega)
    have e2 : ds = [] := List.eq_nil_of_length_eq_zero (by omega)
    subst e1 e2
    rw [fin_nil0] at hf
    cases hf
    omega
  | succ n ih =>
    intro ws s rd ds hn h6 hf
    cases ws with
    | nil =>
      cases ds with
      | nil => rw [fin_nil0] at hf; cases hf; omega
      | cons d ds => rw [fin_nil1] at hf; cases hf
    | cons w ws =>
      rw [List.length_cons] at hn ⊢
      cases w with
      | inr k =>
        rw [fin_mark] at hf
        have := ih ws _ rd ds (by omega) h6 hf
        have : rd.sg.length ≤ s.sg.length + ws.length + 8 * ds.length := this
        omega
      | inl p =>
        by_cases hq : isQ p = true
        · rw [fin_sign hq] at hf
          have := ih ws _ rd ds (by omega) h6 hf
          simp only [List.length_append, List.length_cons, List.length_nil] at this
          omega
        · have hq' : isQ p = false := Bool.eq_false_iff.mpr hq
          have hn0 := fin_name (g := g) hq' ws s ds 0
          rw [List.drop_zero, hf] at hn0
          cases hx : nextR g ds 0 p with
          | none => rw [hx] at hn0; cases hn0
          | some kr =>
            obtain ⟨k, r⟩ := kr
            rw [hx] at hn0
            obtain ⟨e1, er, ez⟩ := nextR_some hx
            have h0 : 0 < ds.length := (List.getElem?_eq_some_iff.mp e1).1
            have := h6 r (List.mem_of_getElem? er)
            have := ih _ _ rd (ds.drop 1) (by simp only [List.length_append, List.length_map, List.length_cons, List.length_drop]; omega) h6 hn0.symm
            simp only [List.length_append, List.length_map, List.length_cons, List.length_drop] at this
            omega
theorem read_len {g : Gram} (hg : okGram g = true) {ds : List D} {rd : Rdg} (h : readG g ds = some rd) : rd.sg.length ≤ 1 + 8 * ds.length := by
  unfold readG at h
  split at h
  · cases h
  · have := fin_len _ _ _ rd ds (Nat.le_refl _) (six hg) h
    have e : (startW g).length ≤ 1 := by
      unfold startW
      split
      · exact Nat.zero_le _
      · exact Nat.le_refl _
    simp only [List.length_nil] at this
    omega
end FR


set_option linter.all false
set_option maxRecDepth 100000
set_option maxHeartbeats 4000000
namespace L2
open PySem PySem.Spec PyProof.Rows
abbrev IsZp (h : Heap) (z TI TO : Addr) (f0 : Value) (f1 : Bool) : Prop :=
  h.get? z = some { cls := .type "zip", dict := none, data := .fields #[f0, .bool f1, .bool false, .ref TI, .ref TO], slots := #[] }
abbrev IsTr (h : Heap) (T : Addr) (a b c : Value) : Prop := h.get? T = some { cls := .type "tuple", data := .seq #[a, b, c] }
theorem neA {a b : Addr} (h : @Ne Nat a b) : a ≠ b := h
structure ZpA (z TI TO i1 i2 i3 l1 l2 l3 : Nat) : Prop where
  e2 : i2 = i1 + 1
  e3 : i3 = i1 + 2
  eI : TI = i1 + 3
  eO : TO = i1 + 4
  ez : z = i1 + 5
  k1 : l1 < i1
  k2 : l2 < i1
  k3 : l3 < i1
section
variable {prog : Program} {w : World} {A : Around} {E : Value → Shared → Prop} {s : Shared}
theorem zp_alive {a : Addr} {Q : Option Obj → Shared → Prop} (h : Q (s.heap.get? a) s) : wpAny (model prog w) A (loadIfAlive a) Q E s := fun _ _ _ => h
theorem zp_upd {T : Addr} {a b c x : Value} {k : Nat} {Q : Unit → Shared → Prop} (hT : IsTr s.heap T a b c)
    (h : ∀ h', h'.get? T = some { cls := .type "tuple", data := .seq ((#[a, b, c] : Array Value).setIfInBounds k x) } → Heap.SameBut T s.heap h' → Q () { s with heap := h' }) :
    wpAny (model prog w) A (updateSeq T (·.setIfInBounds k x)) Q E s := by
  refine wpAny_updateSeq hT rfl (h _ ?_ (Heap.SameBut.update ..))
  rw [Heap.get?_update_self _ hT rfl]
  simp [Obj.mapSeq]
theorem zp_free {z TI TO : Addr} {f0 : Value} {f1 : Bool} {Q : Bool → Shared → Prop} (hf : f0 = .none ∨ ∃ T : Nat, f0 = rawInt T) (hz : IsZp s.heap z TI TO f0 f1)
    (h1 : Q true s) (h2 : ∀ h', IsZp h' z TI TO f0 true → Heap.SameBut z s.heap h' → Q false { s with heap := h' }) :
    wpAny (model prog w) A (Builtin.SmallTypes.ownedTupleIsFree (.ref z)) Q E s := by
  unfold Builtin.SmallTypes.ownedTupleIsFree
  rcases hf with rfl | ⟨T, rfl⟩
  · exact wpAny_bind (wpAny_field hz rfl (x := .none) rfl (wpAny_pure h1))
  · refine wpAny_bind (wpAny_field hz rfl (x := rawInt T) rfl ?_)
    show wpAny _ _ (loadIfAlive ((T : Int).toNat) >>= _) _ _ _
    refine wpAny_bind (zp_alive ?_)
    cases hg : s.heap.get? ((T : Int).toNat) with
    | none =>
      simp only [Option.isNone_none, if_true]
      exact wpAny_pure h1
    | some o =>
      simp only [Option.isNone_some, Bool.false_eq_true, if_false]
      refine wpAny_bind (wpAny_field hz rfl (x := .bool f1) rfl ?_)
      cases f1 with
      | true =>
        rw [if_neg (show ¬ ((Value.bool true != Value.bool true) = true) from Bool.false_ne_true)]
        exact wpAny_pure (h2 s.heap hz (Heap.SameBut.refl _ _))
      | false =>
        rw [if_pos (show (Value.bool false != Value.bool true) = true from rfl)]
        exact wpAny_bind (wpAny_setField_rec hz (by simp) fun h₃ he₃ hs₃ => wpAny_pure (h2 h₃ he₃ hs₃))
theorem zp_item {z TI TO i1 i2 i3 l1 l2 l3 : Addr} {k : Nat} {xs ys vs : Array Value} {x y v a b c f0 : Value} {f1 : Bool} {Q : Value → Shared → Prop} (D : ZpA z TI TO i1 i2 i3 l1 l2 l3) (hf : f0 = .none ∨ ∃ T : Nat, f0 = rawInt T)
    (hz : IsZp s.heap z TI TO f0 f1) (hTI : IsTr s.heap TI (.ref i1) (.ref i2) (.ref i3)) (hTO : IsTr s.heap TO a b c)
    (h1 : s.heap.IsListIter i1 l1 k) (h2 : s.heap.IsListIter i2 l2 k) (h3 : s.heap.IsListIter i3 l3 k) (hl1 : s.heap.IsList l1 xs) (hl2 : s.heap.IsList l2 ys) (hl3 : s.heap.IsList l3 vs) (hx : xs[k]? = some x) (hy : ys[k]? = some y) (hv : vs[k]? = some v)
    (hQ : ∀ h' f0' f1' a' b' c', (f0' = .none ∨ ∃ T : Nat, f0' = rawInt T) → IsZp h' z TI TO f0' f1' → IsTr h' TO a' b' c' → h'.IsListIter i1 l1 (k + 1) → h'.IsListIter i2 l2 (k + 1) → h'.IsListIter i3 l3 (k + 1) → IsTr h' s.heap.objs.size x y v →
      (∀ c o, c ≠ z → c ≠ TO → c ≠ i1 → c ≠ i2 → c ≠ i3 → s.heap.get? c = some o → h'.get? c = some o) → Q (.ref s.heap.objs.size) { s with heap := h' }) :
    wpAny (model prog w) A (Builtin.«zip.__next__» ⟨[.ref z], []⟩) (fun fin s' => ∃ v, fin = .done (.ret v) ∧ Q v s') E s := by
  obtain ⟨e2, e3, eI, eO, ez, k1, k2, k3⟩ := D
  have TOz : TO ≠ z := neA (by omega)
  have i1z : i1 ≠ z := neA (by omega)
  have i2z : i2 ≠ z := neA (by omega)
  have i3z : i3 ≠ z := neA (by omega)
  have TOi1 : TO ≠ i1 := neA (by omega)
  have TOi2 : TO ≠ i2 := neA (by omega)
  have TOi3 : TO ≠ i3 := neA (by omega)
  have i12 : i1 ≠ i2 := neA (by omega)
  have i13 : i1 ≠ i3 := neA (by omega)
  have i23 : i2 ≠ i3 := neA (by omega)
  have l1z : l1 ≠ z := neA (by omega)
  have l2z : l2 ≠ z := neA (by omega)
  have l3z : l3 ≠ z := neA (by omega)
  have l2TO : l2 ≠ TO := neA (by omega)
  have l3TO : l3 ≠ TO := neA (by omega)
  have l2i1 : l2 ≠ i1 := neA (by omega)
  have l3i1 : l3 ≠ i1 := neA (by omega)
  have l3i2 : l3 ≠ i2 := neA (by omega)
  clear e2 e3 eI eO ez k1 k2 k3
  show wpAny _ _ (field (.ref z) 2 >>= _) _ _ _
  refine wpAny_bind (wpAny_field hz rfl (x := .bool false) rfl ?_)
  show wpAny _ _ (field (.ref z) 3 >>= _) _ _ _
  refine wpAny_bind (wpAny_field hz rfl (x := .ref TI) rfl ?_)
  refine wpAny_bind (wpAny_seqItems hTI rfl ?_)
  show wpAny _ _ (Builtin.SmallTypes.ownedTupleIsFree (.ref z) >>= _) _ _ _
  refine wpAny_bind (zp_free hf hz ?_ fun h₀ hz₀ hs₀ => ?_)
  · simp only [if_true]
    refine wpAny_bind (wpAny_rule ?_)
    refine wpAny_bind (wpAny_field hz rfl (x := .ref TO) rfl ?_)
    refine wpAny_bind (wpAny_setField_rec hz (by simp) fun h₁ hz₁ hs₁ => ?_)
    replace hz₁ : IsZp h₁ z TI TO .ellipsis f1 := hz₁
    refine wpAny_bind ?_
    simp only [List.zipIdx_cons, List.zipIdx_nil, List.forIn_cons, List.forIn_nil]
    refine wpAny_bind (wpAny_bind (wpAny_onRaise ?_))
    show wpAny _ _ (Builtin.SmallTypes.nextOf (.ref i1) >>= _) _ _ _
    refine wpAny_bind (wpAny_nextOf_list_item (h1.extBut hs₁.extBut i1z) (hl1.extBut hs₁.extBut l1z) hx fun h₂ h1₂ hs₂ => wpAny_pure ?_)
    have hTO₂ : IsTr h₂ TO a b c := hs₂.extBut _ _ TOi1 (hs₁.extBut _ _ TOz hTO)
    refine wpAny_bind (wpAny_seqItems hTO₂ rfl ?_)
    refine wpAny_bind (zp_upd hTO₂ fun h₃ hTO₃ hs₃ => ?_)
    replace hTO₃ : IsTr h₃ TO x b c := hTO₃
    refine wpAny_bind (wpAny_letGo (wpAny_pure ?_))
    refine wpAny_bind (wpAny_bind (wpAny_onRaise ?_))
    show wpAny _ _ (Builtin.SmallTypes.nextOf (.ref i2) >>= _) _ _ _
    refine wpAny_bind (wpAny_nextOf_list_item (((h2.extBut hs₁.extBut i2z).extBut hs₂.extBut i12.symm).extBut hs₃.extBut TOi2.symm)
      (((hl2.extBut hs₁.extBut l2z).extBut hs₂.extBut l2i1).extBut hs₃.extBut l2TO) hy fun h₄ h2₄ hs₄ => wpAny_pure ?_)
    have hTO₄ : IsTr h₄ TO x b c := hs₄.extBut _ _ TOi2 hTO₃
    refine wpAny_bind (wpAny_seqItems hTO₄ rfl ?_)
    refine wpAny_bind (zp_upd hTO₄ fun h₅ hTO₅ hs₅ => ?_)
    replace hTO₅ : IsTr h₅ TO x y c := hTO₅
    refine wpAny_bind (wpAny_letGo (wpAny_pure ?_))
    refine wpAny_bind (wpAny_bind (wpAny_onRaise ?_))
    show wpAny _ _ (Builtin.SmallTypes.nextOf (.ref i3) >>= _) _ _ _
    refine wpAny_bind (wpAny_nextOf_list_item (((((h3.extBut hs₁.extBut i3z).extBut hs₂.extBut i13.symm).extBut hs₃.extBut TOi3.symm).extBut hs₄.extBut i23.symm).extBut hs₅.extBut TOi3.symm)
      (((((hl3.extBut hs₁.extBut l3z).extBut hs₂.extBut l3i1).extBut hs₃.extBut l3TO).extBut hs₄.extBut l3i2).extBut hs₅.extBut l3TO) hv fun h₆ h3₆ hs₆ => wpAny_pure ?_)
    have hTO₆ : IsTr h₆ TO x y c := hs₆.extBut _ _ TOi3 hTO₅
    refine wpAny_bind (wpAny_seqItems hTO₆ rfl ?_)
    refine wpAny_bind (zp_upd hTO₆ fun h₇ hTO₇ hs₇ => ?_)
    replace hTO₇ : IsTr h₇ TO x y v := hTO₇
    refine wpAny_bind (wpAny_letGo (wpAny_pure (wpAny_pure ?_)))
    refine wpAny_bind (wpAny_seqItems hTO₇ rfl ?_)
    refine wpAny_bind (wpAny_newTuple ?_)
    have hsz : h₇.objs.size = s.heap.objs.size := by rw [hs₇.1, hs₆.1, hs₅.1, hs₄.1, hs₃.1, hs₂.1, hs₁.1]
    have hz₇ : IsZp h₇ z TI TO .ellipsis f1 := hs₇.extBut _ _ TOz.symm (hs₆.extBut _ _ i3z.symm (hs₅.extBut _ _ TOz.symm (hs₄.extBut _ _ i2z.symm (hs₃.extBut _ _ TOz.symm (hs₂.extBut _ _ i1z.symm hz₁)))))
    have hk₇ : ∀ c o, c ≠ z → c ≠ TO → c ≠ i1 → c ≠ i2 → c ≠ i3 → s.heap.get? c = some o → h₇.get? c = some o := fun c o c1 c2 c3 c4 c5 e =>
      hs₇.extBut _ _ c2 (hs₆.extBut _ _ c5 (hs₅.extBut _ _ c2 (hs₄.extBut _ _ c4 (hs₃.extBut _ _ c2 (hs₂.extBut _ _ c3 (hs₁.extBut _ _ c1 e))))))
    have h1₇ : h₇.IsListIter i1 l1 (k + 1) := ((((h1₂.extBut hs₃.extBut TOi1.symm).extBut hs₄.extBut i12).extBut hs₅.extBut TOi1.symm).extBut hs₆.extBut i13).extBut hs₇.extBut TOi1.symm
    have h2₇ : h₇.IsListIter i2 l2 (k + 1) := ((h2₄.extBut hs₅.extBut TOi2.symm).extBut hs₆.extBut i23).extBut hs₇.extBut TOi2.symm
    have h3₇ : h₇.IsListIter i3 l3 (k + 1) := h3₆.extBut hs₇.extBut TOi3.symm
    have hzlt : z < h₇.objs.size := Heap.lt_size hz₇
    show wpAny _ _ (Builtin.SmallTypes.ownedTupleHandOut (.ref z) (.ref h₇.objs.size) >>= _) _ _ _
    refine wpAny_bind ?_
    unfold Builtin.SmallTypes.ownedTupleHandOut
    have hz₈ : IsZp (h₇.push { cls := .type "tuple", data := .seq #[x, y, v] }) z TI TO .ellipsis f1 := Heap.get?_push_of_some _ hz₇
    refine wpAny_bind (wpAny_setField_rec hz₈ (by simp) fun h₉ hz₉ hs₉ => ?_)
    replace hz₉ : IsZp h₉ z TI TO (rawInt h₇.objs.size) f1 := hz₉
    refine wpAny_setField_rec hz₉ (by simp) fun hA hzA hsA => ?_
    replace hzA : IsZp hA z TI TO (rawInt h₇.objs.size) false := hzA
    have up : ∀ c o, c ≠ z → h₇.get? c = some o → hA.get? c = some o := fun c o c1 e => hsA.extBut _ _ c1 (hs₉.extBut _ _ c1 (Heap.get?_push_of_some _ e))
    have hT : IsTr hA h₇.objs.size x y v := hsA.extBut _ _ (Nat.ne_of_gt hzlt) (hs₉.extBut _ _ (Nat.ne_of_gt hzlt) (Heap.get?_push_size _ rfl))
    rw [hsz] at hzA hT
    refine wpAny_pure ⟨_, rfl, ?_⟩
    show Q (.ref h₇.objs.size) _
    rw [hsz]
    exact hQ hA _ _ _ _ _ (.inr ⟨_, rfl⟩) hzA (up _ _ TOz hTO₇) (h1₇.at fun o e => up _ o i1z e) (h2₇.at fun o e => up _ o i2z e) (h3₇.at fun o e => up _ o i3z e) hT fun c o c1 c2 c3 c4 c5 e => up c o c1 (hk₇ c o c1 c2 c3 c4 c5 e)
  · simp only [Bool.false_eq_true, if_false]
    refine wpAny_bind ?_
    rw [← Array.forIn_toList]
    simp only [List.forIn_cons, List.forIn_nil]
    refine wpAny_bind (wpAny_bind (wpAny_holding ?_))
    show wpAny _ _ (Builtin.SmallTypes.nextOf (.ref i1) >>= _) _ _ _
    refine wpAny_bind (wpAny_nextOf_list_item (h1.extBut hs₀.extBut i1z) (hl1.extBut hs₀.extBut l1z) hx fun h₂ h1₂ hs₂ => wpAny_pure (wpAny_pure ?_))
    refine wpAny_bind (wpAny_bind (wpAny_holding ?_))
    show wpAny _ _ (Builtin.SmallTypes.nextOf (.ref i2) >>= _) _ _ _
    refine wpAny_bind (wpAny_nextOf_list_item ((h2.extBut hs₀.extBut i2z).extBut hs₂.extBut i12.symm) ((hl2.extBut hs₀.extBut l2z).extBut hs₂.extBut l2i1) hy fun h₄ h2₄ hs₄ => wpAny_pure (wpAny_pure ?_))
    refine wpAny_bind (wpAny_bind (wpAny_holding ?_))
    show wpAny _ _ (Builtin.SmallTypes.nextOf (.ref i3) >>= _) _ _ _
    refine wpAny_bind (wpAny_nextOf_list_item (((h3.extBut hs₀.extBut i3z).extBut hs₂.extBut i13.symm).extBut hs₄.extBut i23.symm) (((hl3.extBut hs₀.extBut l3z).extBut hs₂.extBut l3i1).extBut hs₄.extBut l3i2) hv fun h₆ h3₆ hs₆ => wpAny_pure (wpAny_pure ?_))
    refine wpAny_pure ?_
    refine wpAny_bind (wpAny_newTuple ?_ (show (3 : Nat) ≤ sizeLine by rw [sizeLine_eq]; decide))
    have hsz : h₆.objs.size = s.heap.objs.size := by rw [hs₆.1, hs₄.1, hs₂.1, hs₀.1]
    have hz₆ : IsZp h₆ z TI TO f0 true := hs₆.extBut _ _ i3z.symm (hs₄.extBut _ _ i2z.symm (hs₂.extBut _ _ i1z.symm hz₀))
    have hk₆ : ∀ c o, c ≠ z → c ≠ i1 → c ≠ i2 → c ≠ i3 → s.heap.get? c = some o → h₆.get? c = some o := fun c o c1 c3 c4 c5 e =>
      hs₆.extBut _ _ c5 (hs₄.extBut _ _ c4 (hs₂.extBut _ _ c3 (hs₀.extBut _ _ c1 e)))
    have h1₆ : h₆.IsListIter i1 l1 (k + 1) := (h1₂.extBut hs₄.extBut i12).extBut hs₆.extBut i13
    have h2₆ : h₆.IsListIter i2 l2 (k + 1) := h2₄.extBut hs₆.extBut i23
    have up : ∀ c o, h₆.get? c = some o → (h₆.push { cls := .type "tuple", data := .seq #[x, y, v] }).get? c = some o := fun c o e => Heap.get?_push_of_some _ e
    have hT : IsTr (h₆.push { cls := .type "tuple", data := .seq #[x, y, v] }) h₆.objs.size x y v := Heap.get?_push_size _ rfl
    rw [hsz] at hT
    refine wpAny_pure ⟨_, rfl, ?_⟩
    show Q (.ref h₆.objs.size) _
    rw [hsz]
    exact hQ _ f0 true a b c hf (up _ _ hz₆) (up _ _ (hk₆ _ _ TOz TOi1 TOi2 TOi3 hTO)) (h1₆.at fun o e => up _ o e) (h2₆.at fun o e => up _ o e) (h3₆.at fun o e => up _ o e) hT fun c o c1 _ c3 c4 c5 e => up c o (hk₆ c o c1 c3 c4 c5 e)
theorem zp_end {z TI TO i1 i2 i3 l1 l2 l3 : Addr} {k : Nat} {xs : Array Value} {a b c f0 : Value} {f1 : Bool} {Q : Fin → Shared → Prop} (hh : A.handled = none) (D : ZpA z TI TO i1 i2 i3 l1 l2 l3) (hf : f0 = .none ∨ ∃ T : Nat, f0 = rawInt T)
    (hz : IsZp s.heap z TI TO f0 f1) (hTI : IsTr s.heap TI (.ref i1) (.ref i2) (.ref i3)) (hTO : IsTr s.heap TO a b c)
    (h1 : s.heap.IsListIter i1 l1 k) (hl1 : s.heap.IsList l1 xs) (hx : xs[k]? = none)
    (hE : ∀ h' e, (∀ c o, c ≠ z → c ≠ i1 → s.heap.get? c = some o → h'.get? c = some o) → (∃ o, h'.get? e = some o ∧ o.cls = .type "StopIteration") → E (.ref e) { s with heap := h' }) :
    wpAny (model prog w) A (Builtin.«zip.__next__» ⟨[.ref z], []⟩) Q E s := by
  obtain ⟨e2, e3, eI, eO, ez, k1, k2, k3⟩ := D
  have i1z : i1 ≠ z := neA (by omega)
  have l1z : l1 ≠ z := neA (by omega)
  clear e2 e3 eI eO ez k1 k2 k3
  show wpAny _ _ (field (.ref z) 2 >>= _) _ _ _
  refine wpAny_bind (wpAny_field hz rfl (x := .bool false) rfl ?_)
  show wpAny _ _ (field (.ref z) 3 >>= _) _ _ _
  refine wpAny_bind (wpAny_field hz rfl (x := .ref TI) rfl ?_)
  refine wpAny_bind (wpAny_seqItems hTI rfl ?_)
  show wpAny _ _ (Builtin.SmallTypes.ownedTupleIsFree (.ref z) >>= _) _ _ _
  refine wpAny_bind (zp_free hf hz ?_ fun h₀ hz₀ hs₀ => ?_)
  · simp only [if_true]
    refine wpAny_bind (wpAny_rule ?_)
    refine wpAny_bind (wpAny_field hz rfl (x := .ref TO) rfl ?_)
    refine wpAny_bind (wpAny_setField_rec hz (by simp) fun h₁ hz₁ hs₁ => ?_)
    replace hz₁ : IsZp h₁ z TI TO .ellipsis f1 := hz₁
    refine wpAny_bind ?_
    simp only [List.zipIdx_cons, List.zipIdx_nil, List.forIn_cons, List.forIn_nil]
    refine wpAny_bind (wpAny_bind (wpAny_onRaise ?_))
    show wpAny _ _ (Builtin.SmallTypes.nextOf (.ref i1) >>= _) _ _ _
    refine wpAny_bind (wpAny_nextOf_list_end hh (h1.extBut hs₁.extBut i1z) (hl1.extBut hs₁.extBut l1z) hx fun h₂ e hs₂ he => ?_)
    obtain ⟨oe, hoe, hce⟩ := he
    have hz₂ : IsZp h₂ z TI TO .ellipsis f1 := hs₂ _ _ i1z.symm hz₁
    have hez : e ≠ z := fun x => by subst x; rw [hz₂] at hoe; cases hoe; simp at hce
    refine wpAny_setField_rec hz₂ (by simp) fun h₃ _ hs₃ => hE h₃ e (fun c o c1 c3 x => hs₃.extBut _ _ c1 (hs₂ _ _ c3 (hs₁.extBut _ _ c1 x))) ⟨oe, hs₃.extBut _ _ hez hoe, hce⟩
  · simp only [Bool.false_eq_true, if_false]
    refine wpAny_bind ?_
    rw [← Array.forIn_toList]
    simp only [List.forIn_cons, List.forIn_nil]
    refine wpAny_bind (wpAny_bind (wpAny_holding ?_))
    show wpAny _ _ (Builtin.SmallTypes.nextOf (.ref i1) >>= _) _ _ _
    exact wpAny_bind (wpAny_nextOf_list_end hh (h1.extBut hs₀.extBut i1z) (hl1.extBut hs₀.extBut l1z) hx fun h₂ e hs₂ he => hE h₂ e (fun c o c1 c3 x => hs₂ _ _ c3 (hs₀.extBut _ _ c1 x)) he)
theorem zp_next_item {z TI TO i1 i2 i3 l1 l2 l3 : Addr} {k : Nat} {xs ys vs : Array Value} {x y v a b c f0 : Value} {f1 : Bool} {Q : Option Value → Shared → Prop} (D : ZpA z TI TO i1 i2 i3 l1 l2 l3) (hf : f0 = .none ∨ ∃ T : Nat, f0 = rawInt T)
    (hz : IsZp s.heap z TI TO f0 f1) (hTI : IsTr s.heap TI (.ref i1) (.ref i2) (.ref i3)) (hTO : IsTr s.heap TO a b c)
    (h1 : s.heap.IsListIter i1 l1 k) (h2 : s.heap.IsListIter i2 l2 k) (h3 : s.heap.IsListIter i3 l3 k) (hl1 : s.heap.IsList l1 xs) (hl2 : s.heap.IsList l2 ys) (hl3 : s.heap.IsList l3 vs) (hx : xs[k]? = some x) (hy : ys[k]? = some y) (hv : vs[k]? = some v)
    (hQ : ∀ h' f0' f1' a' b' c', (f0' = .none ∨ ∃ T : Nat, f0' = rawInt T) → IsZp h' z TI TO f0' f1' → IsTr h' TO a' b' c' → h'.IsListIter i1 l1 (k + 1) → h'.IsListIter i2 l2 (k + 1) → h'.IsListIter i3 l3 (k + 1) → IsTr h' s.heap.objs.size x y v →
      (∀ c o, c ≠ z → c ≠ TO → c ≠ i1 → c ≠ i2 → c ≠ i3 → s.heap.get? c = some o → h'.get? c = some o) → Q (some (.ref s.heap.objs.size)) { s with heap := h' }) :
    wpAny (model prog w) A (pyNext (.ref z)) Q E s := by
  have hT : s.TypeIs (.ref z) "zip" := ⟨_, hz, rfl⟩
  unfold pyNext
  exact wpAny_bind (wpAny_attempt (wpAny_callSpecial?_slot (name := Str.ofString "__next__") hT PySem.F.slot_zip_next
    (wpAny_call_entry PySem.F.slot_zip_next hT PySem.F.entry_zip_next
      (zp_item D hf hz hTI hTO h1 h2 h3 hl1 hl2 hl3 hx hy hv fun h' f0' f1' a' b' c' a1 a2 a3 a4 a5 a6 a7 a8 => wpAny_pure (hQ h' f0' f1' a' b' c' a1 a2 a3 a4 a5 a6 a7 a8)) (PySem.F.args_zip_next_1 _))))
theorem zp_next_end {z TI TO i1 i2 i3 l1 l2 l3 : Addr} {k : Nat} {xs : Array Value} {a b c f0 : Value} {f1 : Bool} {Q : Option Value → Shared → Prop} (hh : A.handled = none) (D : ZpA z TI TO i1 i2 i3 l1 l2 l3) (hf : f0 = .none ∨ ∃ T : Nat, f0 = rawInt T)
    (hz : IsZp s.heap z TI TO f0 f1) (hTI : IsTr s.heap TI (.ref i1) (.ref i2) (.ref i3)) (hTO : IsTr s.heap TO a b c)
    (h1 : s.heap.IsListIter i1 l1 k) (hl1 : s.heap.IsList l1 xs) (hx : xs[k]? = none)
    (hQ : ∀ h', (∀ c o, c ≠ z → c ≠ i1 → s.heap.get? c = some o → h'.get? c = some o) → Q none { s with heap := h' }) : wpAny (model prog w) A (pyNext (.ref z)) Q E s := by
  have hT : s.TypeIs (.ref z) "zip" := ⟨_, hz, rfl⟩
  unfold pyNext
  refine wpAny_bind (wpAny_attempt (wpAny_callSpecial?_slot (name := Str.ofString "__next__") hT PySem.F.slot_zip_next
    (wpAny_call_entry PySem.F.slot_zip_next hT PySem.F.entry_zip_next (zp_end hh D hf hz hTI hTO h1 hl1 hx fun h' e hk he => ?_) (PySem.F.args_zip_next_1 _))))
  obtain ⟨o, ho, hc⟩ := he
  refine wpAny_bind (wpAny_isInstance (T := "StopIteration") (b := true) ⟨o, ho, hc⟩ isSubtype_stop ?_)
  exact wpAny_pure (hQ _ hk)
theorem zp_iter {z TI TO : Addr} {f0 : Value} {f1 : Bool} {Q : Value → Shared → Prop} (hz : IsZp s.heap z TI TO f0 f1) (h : Q (.ref z) s) : wpAny (model prog w) A (pyIter (.ref z)) Q E s := by
  have hT : s.TypeIs (.ref z) "zip" := ⟨_, hz, rfl⟩
  refine wpAny_pyIter_slot hT PySem.F.slot_zip_iter (wpAny_call_entry PySem.F.slot_zip_iter hT PySem.F.entry_zip_iter ?_ (PySem.F.args_zip_iter_1 _))
  show wpAny _ _ (ret (.ref z)) _ _ s
  exact wpAny_pure ⟨_, rfl, "zip", _, hT, PySem.F.slot_zip_next.lookup, h⟩

def ZpSt (z TI TO i1 i2 i3 l1 l2 l3 : Addr) (xs ys vs : Array Value) (i : Nat) (h : Heap) : Prop := ∃ f0 f1 a b c, (f0 = .none ∨ ∃ T : Nat, f0 = rawInt T) ∧ IsZp h z TI TO f0 f1 ∧ IsTr h TI (.ref i1) (.ref i2) (.ref i3) ∧ IsTr h TO a b c ∧
  h.IsListIter i1 l1 i ∧ h.IsListIter i2 l2 i ∧ h.IsListIter i3 l3 i ∧ h.IsList l1 xs ∧ h.IsList l2 ys ∧ h.IsList l3 vs
end
end L2


set_option linter.all false
set_option maxRecDepth 100000
set_option maxHeartbeats 4000000
namespace L2
open PySem PySem.Spec PyProof.Rows
theorem typeCall_zip_3 (a b c : Value) : checkTypeCall "zip" ⟨[a, b, c], []⟩ = pure () := by kernel_rfl
theorem newCall_zip_3 (a b c : Value) : checkBuiltinCall "zip.__new__" ⟨[.type "zip", a, b, c], []⟩ = pure () := by kernel_rfl
theorem args_object_init_4 (a b c d : Value) : argsOk "object.__init__" ⟨[a, b, c, d], []⟩ := by
  unfold argsOk; rw [signature?_of (id := "object.__init__") (n := ['_', '_', 't', 'i', 'n', 'i', '_', '_']) (o := ['t', 'c', 'e', 'j', 'b', 'o']) (by kernel_rfl) PySem.F.owner_object]; kernel_rfl
theorem zp_nolen : typeLookup (.type "zip") "__len__" = pure none := by rw [typeLookup_type, builtinLookup_eq_fast]; kernel_rfl
theorem zp_nohint : typeLookup (.type "zip") "__length_hint__" = pure none := by rw [typeLookup_type, builtinLookup_eq_fast]; kernel_rfl
abbrev zpH1 (h : Heap) (l1 : Addr) : Heap := h.push { cls := .type "list_iterator", data := .fields #[.ref l1, .int 0 0] }
abbrev zpH2 (h : Heap) (l1 l2 : Addr) : Heap := (zpH1 h l1).push { cls := .type "list_iterator", data := .fields #[.ref l2, .int 0 0] }
abbrev zpH3 (h : Heap) (l1 l2 l3 : Addr) : Heap := (zpH2 h l1 l2).push { cls := .type "list_iterator", data := .fields #[.ref l3, .int 0 0] }
abbrev zpH4 (h : Heap) (l1 l2 l3 : Addr) : Heap := (zpH3 h l1 l2 l3).push { cls := .type "tuple", data := .seq #[.ref h.objs.size, .ref (zpH1 h l1).objs.size, .ref (zpH2 h l1 l2).objs.size] }
abbrev zpH5 (h : Heap) (l1 l2 l3 : Addr) : Heap := (zpH4 h l1 l2 l3).push { cls := .type "tuple", data := .seq #[.none, .none, .none] }
abbrev zpH6 (h : Heap) (l1 l2 l3 : Addr) : Heap := (zpH5 h l1 l2 l3).push { cls := .type "zip", data := .fields #[.none, .bool false, .bool false, .ref (zpH3 h l1 l2 l3).objs.size, .ref (zpH4 h l1 l2 l3).objs.size] }
theorem meets_zp_new (l1 l2 l3 : Addr) (xs ys vs : Array Value) :
    Meets (Builtin.«zip.__new__» ⟨[.type "zip", .ref l1, .ref l2, .ref l3], []⟩) (fun _ R s => s.heap.IsList l1 xs ∧ s.heap.IsList l2 ys ∧ s.heap.IsList l3 vs ∧
      R (.ok (.ret (.ref (zpH5 s.heap l1 l2 l3).objs.size))) { s with heap := zpH6 s.heap l1 l2 l3 }) :=
  .of_wp fun prog w A R s h => by
    obtain ⟨hp, g, d, tk, os⟩ := s; obtain ⟨hl1, hl2, hl3, h⟩ := h
    have hsub := sub_zip
    have hL1 : Heap.IsList (Shared.heap ⟨hp, g, d, tk, os⟩) l1 xs := hl1
    have hL2 : Heap.IsList (Shared.heap ⟨hp.push { cls := .type "list_iterator", data := .fields #[.ref l1, .int 0 0] }, g, d, tk, os⟩) l2 ys := Heap.IsList.push hl2 _
    have hL3 : Heap.IsList (Shared.heap ⟨(hp.push { cls := .type "list_iterator", data := .fields #[.ref l1, .int 0 0] }).push { cls := .type "list_iterator", data := .fields #[.ref l2, .int 0 0] }, g, d, tk, os⟩) l3 vs := Heap.IsList.push (Heap.IsList.push hl3 _) _
    wp_walk using wpAny_pyIter_list hL1, wpAny_pyIter_list hL2, wpAny_pyIter_list hL3
    exact ⟨_, rfl, h⟩
section
variable {prog : Program} {w : World} {A : Around} {E : Value → Shared → Prop} {s : Shared}
theorem call_zp {l1 l2 l3 : Addr} {xs ys vs : Array Value} {Q : Value → Shared → Prop} (hl1 : s.heap.IsList l1 xs) (hl2 : s.heap.IsList l2 ys) (hl3 : s.heap.IsList l3 vs)
    (h : ∀ h', ZpSt (s.heap.objs.size + 5) (s.heap.objs.size + 3) (s.heap.objs.size + 4) s.heap.objs.size (s.heap.objs.size + 1) (s.heap.objs.size + 2) l1 l2 l3 xs ys vs 0 h' → h'.objs.size = s.heap.objs.size + 6 →
      (∀ c o, s.heap.get? c = some o → h'.get? c = some o) → Q (.ref (s.heap.objs.size + 5)) { s with heap := h' }) :
    wpAny (model prog w) A (call (.type "zip") [.ref l1, .ref l2, .ref l3]) Q E s := by
  refine callType_new PySem.F.called_zip (by decide) (typeCall_zip_3 _ _ _) (newCall_zip_3 _ _ _) (fun obj => args_object_init_4 obj _ _ _) PySem.F.entry_zip_new
    (meets_zp_new l1 l2 l3 xs ys vs) ⟨hl1, hl2, hl3, ?_⟩
  have z1 : (zpH1 s.heap l1).objs.size = s.heap.objs.size + 1 := Heap.size_push ..
  have z2 : (zpH2 s.heap l1 l2).objs.size = s.heap.objs.size + 2 := by rw [Heap.size_push, z1]
  have z3 : (zpH3 s.heap l1 l2 l3).objs.size = s.heap.objs.size + 3 := by rw [Heap.size_push, z2]
  have z4 : (zpH4 s.heap l1 l2 l3).objs.size = s.heap.objs.size + 4 := by rw [Heap.size_push, z3]
  have z5 : (zpH5 s.heap l1 l2 l3).objs.size = s.heap.objs.size + 5 := by rw [Heap.size_push, z4]
  have z6 : (zpH6 s.heap l1 l2 l3).objs.size = s.heap.objs.size + 6 := by rw [Heap.size_push, z5]
  have g6 : (zpH6 s.heap l1 l2 l3).get? (zpH5 s.heap l1 l2 l3).objs.size = some _ := Heap.get?_push_size _ rfl
  have g5 : (zpH6 s.heap l1 l2 l3).get? (zpH4 s.heap l1 l2 l3).objs.size = some _ := Heap.get?_push_of_some _ (Heap.get?_push_size _ rfl)
  have g4 : (zpH6 s.heap l1 l2 l3).get? (zpH3 s.heap l1 l2 l3).objs.size = some _ := Heap.get?_push_of_some _ (Heap.get?_push_of_some _ (Heap.get?_push_size _ rfl))
  have g3 : (zpH6 s.heap l1 l2 l3).get? (zpH2 s.heap l1 l2).objs.size = some _ := Heap.get?_push_of_some _ (Heap.get?_push_of_some _ (Heap.get?_push_of_some _ (Heap.get?_push_size _ rfl)))
  have g2 : (zpH6 s.heap l1 l2 l3).get? (zpH1 s.heap l1).objs.size = some _ := Heap.get?_push_of_some _ (Heap.get?_push_of_some _ (Heap.get?_push_of_some _ (Heap.get?_push_of_some _ (Heap.get?_push_size _ rfl))))
  have g1 : (zpH6 s.heap l1 l2 l3).get? s.heap.objs.size = some _ := Heap.get?_push_of_some _ (Heap.get?_push_of_some _ (Heap.get?_push_of_some _ (Heap.get?_push_of_some _ (Heap.get?_push_of_some _ (Heap.get?_push_size _ rfl)))))
  have up : ∀ c o, s.heap.get? c = some o → (zpH6 s.heap l1 l2 l3).get? c = some o := fun c o x =>
    Heap.get?_push_of_some _ (Heap.get?_push_of_some _ (Heap.get?_push_of_some _ (Heap.get?_push_of_some _ (Heap.get?_push_of_some _ (Heap.get?_push_of_some _ x)))))
  show _ ∧ _
  rw [z3, z4, z5] at g6
  rw [z1, z2, z3] at g4
  rw [z4] at g5
  rw [z1] at g2
  rw [z2] at g3
  rw [z5]
  exact ⟨⟨_, g6, rfl⟩, h _ ⟨.none, false, .none, .none, .none, .inl rfl, g6, g4, g5, ⟨_, g1, rfl, rfl⟩, ⟨_, g2, rfl, rfl⟩, ⟨_, g3, rfl, rfl⟩, hl1.at fun o e => up _ o e, hl2.at fun o e => up _ o e, hl3.at fun o e => up _ o e⟩ z6 up⟩

structure ZpG (xs ys vs : Array Value) (lo : Addr) (h : Heap) (as : List Addr) : Prop where
  rise : as.Pairwise (· < ·)
  above : ∀ a ∈ as, lo < a
  trips : ∀ (j : Nat) (a : Addr), as[j]? = some a → ∃ x y v, xs[j]? = some x ∧ ys[j]? = some y ∧ vs[j]? = some v ∧ IsTr h a x y v
theorem ZpG.there {xs ys vs : Array Value} {lo : Addr} {h : Heap} {as : List Addr} (g : ZpG xs ys vs lo h as) {a : Addr} (ha : a ∈ as) : a < h.objs.size := by
  obtain ⟨j, hj⟩ := List.mem_iff_getElem?.mp ha
  obtain ⟨_, _, _, _, _, _, e⟩ := g.trips j a hj
  exact Heap.lt_size e
theorem ZpSt.keep {z TI TO i1 i2 i3 l1 l2 l3 S : Addr} {xs ys vs : Array Value} {i : Nat} {h h' : Heap} (D : ZpA z TI TO i1 i2 i3 l1 l2 l3) (hzS : z < S) (st : ZpSt z TI TO i1 i2 i3 l1 l2 l3 xs ys vs i h) (hk : ∀ b o, b ≠ S → h.get? b = some o → h'.get? b = some o) : ZpSt z TI TO i1 i2 i3 l1 l2 l3 xs ys vs i h' := by
  obtain ⟨e2, e3, eI, eO, ez, k1, k2, k3⟩ := D
  have hzS : @LT.lt Nat _ z S := hzS
  obtain ⟨f0, f1, a, b, c, hf, hz, hTI, hTO, h1, h2, h3, hl1, hl2, hl3⟩ := st
  exact ⟨f0, f1, a, b, c, hf, hk _ _ (neA (by omega)) hz, hk _ _ (neA (by omega)) hTI, hk _ _ (neA (by omega)) hTO, h1.at fun o e => hk _ o (neA (by omega)) e, h2.at fun o e => hk _ o (neA (by omega)) e, h3.at fun o e => hk _ o (neA (by omega)) e,
    hl1.at fun o e => hk _ o (neA (by omega)) e, hl2.at fun o e => hk _ o (neA (by omega)) e, hl3.at fun o e => hk _ o (neA (by omega)) e⟩
theorem zp_loop {R : Result → Shared → Prop} {z TI TO i1 i2 i3 l1 l2 l3 S : Addr} {xs ys vs : Array Value} {n : Nat} (hh : A.handled = none) (D : ZpA z TI TO i1 i2 i3 l1 l2 l3) (hzS : z < S) (n1 : xs.size = n) (n2 : ys.size = n) (n3 : vs.size = n) (hn : n ≤ sizeLine) (res : Value) {h₁ : Heap}
    (hR : ∀ h' tk acc c as, (∀ b o, b ≠ S → b ≠ z → b ≠ TO → b ≠ i1 → b ≠ i2 → b ≠ i3 → h₁.get? b = some o → h'.get? b = some o) → h'.get? S = some { cls := .type "list", dict := none, data := .seq acc c, slots := #[] } → as.length = n → ZpG xs ys vs S h' as →
      acc.toList = as.map Value.ref → R (.ok (.ret res)) { s with heap := h', toks := tk }) :
    ∀ (k i : Nat) (h : Heap) (tk c : Nat) (acc : Array Value) (as : List Addr), n - i = k → i ≤ n → ZpSt z TI TO i1 i2 i3 l1 l2 l3 xs ys vs i h → (∀ b o, b ≠ S → b ≠ z → b ≠ TO → b ≠ i1 → b ≠ i2 → b ≠ i3 → h₁.get? b = some o → h.get? b = some o) →
      h.get? S = some { cls := .type "list", dict := none, data := .seq acc c, slots := #[] } → acc.toList = as.map Value.ref → as.length = i → ZpG xs ys vs S h as →
      codeAny (model prog w) A (.builtin "list.extend.loop" ⟨[.ref S, .ref z, res], []⟩) R { s with heap := h, toks := tk } := by
  have D' := D
  obtain ⟨e2, e3, eI, eO, ez, k1, k2, k3⟩ := D
  have zS : @LT.lt Nat _ z S := hzS
  have Sz : S ≠ z := neA (by omega)
  have STO : S ≠ TO := neA (by omega)
  have Si1 : S ≠ i1 := neA (by omega)
  have Si2 : S ≠ i2 := neA (by omega)
  have Si3 : S ≠ i3 := neA (by omega)
  have far : ∀ b : Addr, S < b → b ≠ S ∧ b ≠ z ∧ b ≠ TO ∧ b ≠ i1 ∧ b ≠ i2 ∧ b ≠ i3 := fun b hb => by
    have hb : @LT.lt Nat _ S b := hb
    exact ⟨neA (by omega), neA (by omega), neA (by omega), neA (by omega), neA (by omega), neA (by omega)⟩
  have lz : l1 ≠ z ∧ l1 ≠ TO ∧ l1 ≠ i1 ∧ l1 ≠ i2 ∧ l1 ≠ i3 := ⟨neA (by omega), neA (by omega), neA (by omega), neA (by omega), neA (by omega)⟩
  have lz2 : l2 ≠ z ∧ l2 ≠ TO ∧ l2 ≠ i1 ∧ l2 ≠ i2 ∧ l2 ≠ i3 := ⟨neA (by omega), neA (by omega), neA (by omega), neA (by omega), neA (by omega)⟩
  have lz3 : l3 ≠ z ∧ l3 ≠ TO ∧ l3 ≠ i1 ∧ l3 ≠ i2 ∧ l3 ≠ i3 := ⟨neA (by omega), neA (by omega), neA (by omega), neA (by omega), neA (by omega)⟩
  have tz : TI ≠ z ∧ TI ≠ TO ∧ TI ≠ i1 ∧ TI ≠ i2 ∧ TI ≠ i3 := ⟨neA (by omega), neA (by omega), neA (by omega), neA (by omega), neA (by omega)⟩
  clear e2 e3 eI eO ez k1 k2 k3
  intro k
  induction k with
  | zero =>
    intro i h tk c acc as hk hi hst hkeep hS hacc hal hG
    have hin : i = n := by omega
    obtain ⟨f0, f1, a, b, c', hf, hz, hTI, hTO, h1, h2, h3, hl1, hl2, hl3⟩ := hst
    refine codeAny_builtin PySem.F.entry_extend_loop ?_
    rw [Around.under_plainId PySem.F.plain_extend_loop _]
    show wpAny _ A.in1 (pyNext (.ref z) >>= _) _ _ _
    refine wpAny_bind (zp_next_end (s := { s with heap := h, toks := tk }) (A := A.in1) hh D' hf hz hTI hTO h1 hl1 (Array.getElem?_eq_none (by omega)) fun h' he => ?_)
    refine wpAny_pure (hR h' tk acc c as (fun b o q1 q2 q3 q4 q5 q6 e => he b o q2 q4 (hkeep b o q1 q2 q3 q4 q5 q6 e)) (he S _ Sz Si1 hS) (by omega) ⟨hG.rise, hG.above, fun j a hj => ?_⟩ hacc)
    obtain ⟨x, y, v, e1, e2, e3, e4⟩ := hG.trips j a hj
    have fa := far a (hG.above a (List.mem_of_getElem? hj))
    exact ⟨x, y, v, e1, e2, e3, he a _ fa.2.1 fa.2.2.2.1 e4⟩
  | succ k ih =>
    intro i h tk c acc as hk hi hst hkeep hS hacc hal hG
    have hlt : i < n := by omega
    obtain ⟨f0, f1, a, b, c', hf, hz, hTI, hTO, h1, h2, h3, hl1, hl2, hl3⟩ := hst
    have hsz : acc.size = i := by rw [← Array.length_toList, hacc, List.length_map, hal]
    have q1 : xs[i]? = some xs[i] := Array.getElem?_eq_getElem (by omega)
    have q2 : ys[i]? = some ys[i] := Array.getElem?_eq_getElem (by omega)
    have q3 : vs[i]? = some vs[i] := Array.getElem?_eq_getElem (by omega)
    refine codeAny_builtin PySem.F.entry_extend_loop ?_
    rw [Around.under_plainId PySem.F.plain_extend_loop _]
    show wpAny _ A.in1 (pyNext (.ref z) >>= _) _ _ _
    refine wpAny_bind (zp_next_item (s := { s with heap := h, toks := tk }) D' hf hz hTI hTO h1 h2 h3 hl1 hl2 hl3 q1 q2 q3 fun h' f0' f1' a' b' c'' r0 r1 r2 r3 r4 r5 ht hkp => ?_)
    dsimp only at ht hkp ⊢
    have hS' := hkp S _ Sz STO Si1 Si2 Si3 hS
    have up : ∀ b o, b ≠ S → h'.get? b = some o → (h'.update S (Obj.mapSeq (·.push (Value.ref h.objs.size)))).get? b = some o := fun b o hb e => (Heap.get?_update_other _ _ (Ne.symm hb)).trans e
    have hSl : S < h.objs.size := Heap.lt_size hS
    have st' : ZpSt z TI TO i1 i2 i3 l1 l2 l3 xs ys vs (i + 1) h' := ⟨f0', f1', a', b', c'', r0, r1, hkp _ _ tz.1 tz.2.1 tz.2.2.1 tz.2.2.2.1 tz.2.2.2.2 hTI, r2, r3, r4, r5,
      hl1.at fun o e => hkp _ o lz.1 lz.2.1 lz.2.2.1 lz.2.2.2.1 lz.2.2.2.2 e, hl2.at fun o e => hkp _ o lz2.1 lz2.2.1 lz2.2.2.1 lz2.2.2.2.1 lz2.2.2.2.2 e, hl3.at fun o e => hkp _ o lz3.1 lz3.2.1 lz3.2.2.1 lz3.2.2.2.1 lz3.2.2.2.2 e⟩
    show wpAny _ A.in1 (updateSeq S (·.push (Value.ref h.objs.size)) >>= _) _ _ _
    refine wpAny_bind ?_
    refine wpAny_updateSeq hS' rfl (wpAny_pure ⟨plainId_quiet PySem.F.plain_extend_loop _, ih (i + 1) _ tk _ (acc.push (Value.ref h.objs.size)) (as ++ [h.objs.size]) (by omega) hlt (st'.keep D' hzS up)
      (fun b o p1 p2 p3 p4 p5 p6 e => up b o p1 (hkp b o p2 p3 p4 p5 p6 (hkeep b o p1 p2 p3 p4 p5 p6 e))) (Heap.get?_update_self _ hS' rfl) (by rw [Array.toList_push, hacc, List.map_append]; rfl) (by rw [List.length_append, hal]; rfl) ⟨?_, ?_, ?_⟩⟩) (by rw [hsz]; omega) (by show (acc.push (Value.ref h.objs.size)).size ≤ sizeLine + 1; rw [Array.size_push, hsz]; omega)
    · refine List.pairwise_append.mpr ⟨hG.rise, List.pairwise_singleton _ _, fun a ha b hb => ?_⟩
      rw [List.mem_singleton.mp hb]
      exact hG.there ha
    · intro a ha
      rcases List.mem_append.mp ha with ha | ha
      · exact hG.above a ha
      · rw [List.mem_singleton.mp ha]; exact hSl
    · intro j b hj
      rcases Nat.lt_trichotomy j as.length with p1 | p1 | p1
      · rw [List.getElem?_append_left p1] at hj
        obtain ⟨x, y, v, e1, e2, e3, e4⟩ := hG.trips j b hj
        have fb := far b (hG.above b (List.mem_of_getElem? hj))
        exact ⟨x, y, v, e1, e2, e3, up b _ fb.1 (hkp b _ fb.2.1 fb.2.2.1 fb.2.2.2.1 fb.2.2.2.2.1 fb.2.2.2.2.2 e4)⟩
      · subst p1
        have hb : h.objs.size = b := by simpa using hj
        subst hb
        exact ⟨_, _, _, by rw [hal]; exact q1, by rw [hal]; exact q2, by rw [hal]; exact q3, up _ _ (Nat.ne_of_gt hSl) ht⟩
      · have hnone : (as ++ [h.objs.size])[j]? = none := List.getElem?_eq_none (by rw [List.length_append, List.length_singleton]; omega)
        rw [hnone] at hj; cases hj
end
end L2


set_option linter.all false
set_option maxRecDepth 100000
set_option maxHeartbeats 4000000
namespace L2
open PySem PySem.Spec PyProof.Rows
section
variable {prog : Program} {w : World} {A : Around} {E : Value → Shared → Prop} {s : Shared}
theorem zp_hint {z TI TO : Addr} {f0 : Value} {f1 : Bool} {Q : Bool → Shared → Prop} (hz : IsZp s.heap z TI TO f0 f1) (h : Q true s) : wpAny (model prog w) A (Builtin.List.listLengthHint (.ref z)) Q E s := by
  have hT : s.TypeIs (.ref z) "zip" := ⟨_, hz, rfl⟩
  unfold Builtin.List.listLengthHint
  refine wpAny_bind (wpAny_specialOf hT zp_nolen ?_)
  show wpAny _ _ (specialOf (Value.ref z) (Str.ofString "__length_hint__") >>= _) _ _ _
  exact wpAny_bind (wpAny_specialOf hT zp_nohint (wpAny_pure h))
theorem call_list_zp {z TI TO i1 i2 i3 l1 l2 l3 : Addr} {xs ys vs : Array Value} {n : Nat} {Q : Value → Shared → Prop} (hh : A.handled = none) (D : ZpA z TI TO i1 i2 i3 l1 l2 l3) (n1 : xs.size = n) (n2 : ys.size = n) (n3 : vs.size = n) (hn : n ≤ sizeLine)
    (st : ZpSt z TI TO i1 i2 i3 l1 l2 l3 xs ys vs 0 s.heap)
    (hQ : ∀ h' tk acc c as, (∀ b o, b ≠ z → b ≠ TO → b ≠ i1 → b ≠ i2 → b ≠ i3 → s.heap.get? b = some o → h'.get? b = some o) → h'.get? s.heap.objs.size = some { cls := .type "list", dict := none, data := .seq acc c, slots := #[] } → as.length = n → ZpG xs ys vs s.heap.objs.size h' as →
      acc.toList = as.map Value.ref → Q (.ref s.heap.objs.size) { s with heap := h', toks := tk }) : wpAny (model prog w) A (call (.type "list") [.ref z]) Q E s := by
  have zlt : z < s.heap.objs.size := by obtain ⟨_, _, _, _, _, _, hz, _⟩ := st; exact Heap.lt_size hz
  refine callType_codes (Q₁ := fun obj t => obj = .ref s.heap.objs.size ∧ t = { s with heap := s.heap.push { cls := .type "list", data := .seq #[] } }) PySem.F.called_list (PySem.F.typeCall_list_1 _) PySem.F.entry_list_init (code_list_new _ ⟨rfl, rfl⟩) fun obj t ht => ?_
  obtain ⟨rfl, rfl⟩ := ht
  have g0 : (s.heap.push { cls := .type "list", data := .seq #[] }).get? s.heap.objs.size = some { cls := .type "list", data := .seq #[] } := Heap.get?_push_size _ rfl
  refine ⟨⟨_, g0, rfl⟩, PySem.F.args_list_init_2 _ _, ?_⟩
  show wpAny _ _ (Builtin.List.listItems (.ref s.heap.objs.size) >>= fun old => Builtin.List.listUpdate (.ref s.heap.objs.size) (fun _ => #[]) >>= fun _ => letGo old.toList.reverse >>= fun _ => Builtin.List.listExtendWith (.ref s.heap.objs.size) (.ref z) .none) _ _ _
  refine wpAny_bind ?_
  unfold Builtin.List.listItems
  refine wpAny_bind (wpAny_seqItems g0 rfl (wpAny_pure ?_))
  refine wpAny_bind (show wpAny _ _ (updateSeq s.heap.objs.size (fun _ => #[])) _ _ _ from wpAny_updateSeq g0 rfl ?_)
  have g1 := Heap.get?_update_self (Obj.mapSeq (fun _ => (#[] : Array Value))) g0 rfl
  have k1 : ∀ b o, s.heap.get? b = some o → ((s.heap.push { cls := .type "list", data := .seq #[] }).update s.heap.objs.size (Obj.mapSeq (fun _ => (#[] : Array Value)))).get? b = some o := fun b o e =>
    (Heap.get?_update_other _ _ (Nat.ne_of_gt (Heap.lt_size e))).trans (Heap.get?_push_of_some _ e)
  refine wpAny_bind (wpAny_letGo ?_)
  revert g1 k1
  generalize (s.heap.push { cls := .type "list", data := .seq #[] }).update s.heap.objs.size (Obj.mapSeq (fun _ => (#[] : Array Value))) = h1
  intro g1 k1
  have st_at : ∀ {h2 : Heap}, (∀ b o, s.heap.get? b = some o → h2.get? b = some o) → ZpSt z TI TO i1 i2 i3 l1 l2 l3 xs ys vs 0 h2 := fun {h2} k => st.keep D zlt fun b o _ e => k b o e
  have hz1 : ∃ f0 f1, IsZp h1 z TI TO f0 f1 := by obtain ⟨f0, f1, _, _, _, _, hz, _⟩ := st_at k1; exact ⟨f0, f1, hz⟩
  obtain ⟨f0, f1, hz1⟩ := hz1
  have hT : Shared.TypeIs { s with heap := h1 } (.ref z) "zip" := ⟨_, hz1, rfl⟩
  have key : ∀ (h2 : Heap) (c1 tk : Nat), (∀ b o, s.heap.get? b = some o → h2.get? b = some o) → h2.get? s.heap.objs.size = some { cls := .type "list", data := .seq #[] c1 } →
      codeAny (model prog w) A.in1 (.builtin "list.extend.loop" ⟨[.ref s.heap.objs.size, .ref z, .none], []⟩) (wants (fun r s₂ => r = Value.none ∧ Q (Value.ref s.heap.objs.size) s₂) E) { s with heap := h2, toks := tk } := by
    intro h2 c1 tk k2 g2
    refine zp_loop (s := s) (S := s.heap.objs.size) (h₁ := s.heap) (A := A.in1) hh D zlt n1 n2 n3 hn .none (fun h' tk' acc c as hk' hS' hl hG hacc => ?_) n 0 h2 tk c1 #[] [] (Nat.sub_zero _) (Nat.zero_le _) (st_at k2) (fun b o _ _ _ _ _ _ e => k2 b o e) g2 rfl rfl
      ⟨List.Pairwise.nil, (fun _ ha => nomatch ha), (fun j a hj => by simp at hj)⟩
    exact ⟨rfl, hQ h' tk' acc c as (fun b o q2 q3 q4 q5 q6 e => hk' b o (Nat.ne_of_lt (Heap.lt_size e)) q2 q3 q4 q5 q6 e) hS' hl hG hacc⟩
  unfold Builtin.List.listExtendWith
  refine wpAny_bind (wpAny_typeOf hT ?_)
  have ns : Builtin.List.listSameRef (.ref s.heap.objs.size) (.ref z) = false := by simp [Builtin.List.listSameRef, Nat.ne_of_gt zlt]
  rw [if_neg (by rw [ns]; decide)]
  refine wpAny_bind (zp_iter hz1 (wpAny_bind (wpAny_holding (zp_hint hz1 ?_))))
  refine wpAny_ite_split (fun _ => ?_) (fun _ => wpAny_pure ⟨plainId_quiet PySem.F.plain_extend_loop _, key h1 _ _ k1 g1⟩)
  refine wpAny_bind (wpAny_rule (wpAny_bind ?_))
  refine (show wpAny _ _ (updateSeq s.heap.objs.size (·.push .none) >>= fun _ => updateSeq s.heap.objs.size (·.pop)) _ _ _ from ?_)
  refine wpAny_bind (wpAny_updateSeq g1 rfl ?_)
  have g2 := Heap.get?_update_self (Obj.mapSeq (·.push Value.none)) g1 rfl
  refine wpAny_updateSeq (hz := by seq_fits) g2 rfl ?_
  have g3 := Heap.get?_update_self (Obj.mapSeq (·.pop)) g2 rfl
  refine wpAny_pure ⟨plainId_quiet PySem.F.plain_extend_loop _, key _ _ _ (fun b o e => ?_) g3⟩
  have nb : s.heap.objs.size ≠ b := Nat.ne_of_gt (Heap.lt_size e)
  exact (Heap.get?_update_other _ _ nb).trans ((Heap.get?_update_other _ _ nb).trans (k1 b o e))
end

def cutH (h : Heap) (a : Nat) : Heap := ⟨h.objs.extract 0 a, h.life⟩
theorem cutH_get {h : Heap} {a b : Nat} (hb : b < a) : (cutH h a).get? b = h.get? b := by
  unfold cutH Heap.get?
  have : (h.objs.extract 0 a)[b]? = h.objs[b]? := by
    rw [Array.getElem?_extract]
    simp
    omega
  rw [this]
theorem cutH_size {h : Heap} {a : Nat} (ha : a ≤ h.objs.size) : (cutH h a).objs.size = a := by
  unfold cutH
  rw [Array.size_extract]
  omega

theorem Inv.laidL {X : Cx} {pins : List (Addr × Obj)} {σ : List (Option V)} {h' : Heap} {t' : Nat} : ∀ (ops : List (Addr × HO)) {H : Hp} {s : Shared}, Inv X pins σ H s → (∀ b u, s.heap.get? b = some u → h'.get? b = some u) →
    (ops.map (·.1)).Pairwise (fun a b => @LT.lt Nat _ a b) → (∀ p ∈ ops, @LE.le Nat _ s.heap.objs.size p.1) → (∀ p ∈ ops, ∀ (G : Hp) (hh : Heap), hh.get? p.1 = h'.get? p.1 → ObjOk X.prog X.w G hh p.1 p.2) →
    Inv X pins σ (updL H ops) { s with heap := h', toks := t' } ∧ FreshL H ops
  | [], H, s, I, k, _, _, _ => ⟨I.kept k, True.intro⟩
  | p :: r, H, s, I, k, asc, low, new => by
    rw [List.map_cons, List.pairwise_cons] at asc
    have hp := low p (List.mem_cons_self ..)
    have hlt : @LT.lt Nat _ p.1 h'.objs.size := (new p (List.mem_cons_self ..) H h' rfl).lt
    have I1 : Inv X pins σ (upd H p.1 p.2) { s with heap := cutH h' (p.1 + 1), toks := s.toks } := I.laid (t' := s.toks) (fun b u e => by
      have hb : @LT.lt Nat _ b s.heap.objs.size := Heap.lt_size e
      rw [cutH_get (by omega)]
      exact k b u e) hp (new p (List.mem_cons_self ..) _ _ (cutH_get (Nat.lt_succ_self _)))
    obtain ⟨I2, f2⟩ := Inv.laidL (h' := h') (t' := t') r I1 (fun b u e => by
      have hb : @LT.lt Nat _ b (cutH h' (p.1 + 1)).objs.size := Heap.lt_size e
      rw [cutH_size hlt] at hb
      have e : (cutH h' (p.1 + 1)).get? b = some u := e
      rw [cutH_get hb] at e
      exact e) asc.2 (fun q hq => by
      have := asc.1 q.1 (List.mem_map.mpr ⟨q, hq, rfl⟩)
      show @LE.le Nat _ (cutH h' (p.1 + 1)).objs.size q.1
      rw [cutH_size hlt]
      exact this) fun q hq => new q (List.mem_cons_of_mem _ hq)
    exact ⟨I2, I.hok.fresh hp, f2⟩
end L2


set_option linter.all false
set_option maxRecDepth 100000
set_option maxHeartbeats 4000000
namespace L2
open PySem PySem.Spec PyProof.Rows

def zpOps (l : Addr) (ts : List Addr) (xs ys zs : List V) : List (Addr × HO) := (l, .lst (ts.map V.ref)) :: (ts.zip (xs.zip (ys.zip zs))).map fun p => (p.1, .tup [p.2.1, p.2.2.1, p.2.2.2])
def tListZip (K : PySem.W.Frag) (ta : TA) : TE := fun σ H Q => ta σ H fun vs H1 => ∃ a b c xs ys zs, vs = [.ref a, .ref b, .ref c] ∧ SqL K H1 a xs ∧ SqL K H1 b ys ∧ SqL K H1 c zs ∧ ys.length = xs.length ∧ zs.length = xs.length ∧
  ∀ (l : Addr) (ts : List Addr), ts.length = xs.length → FreshL H1 (zpOps l ts xs ys zs) → Q (.ref l) (updL H1 (zpOps l ts xs ys zs))
theorem vals3 {x y z : V} {us : List Value} (r : Vals [x, y, z] us) : ∃ u v w', us = [u, v, w'] ∧ RelV x u ∧ RelV y v ∧ RelV z w' := by
  cases r with
  | cons r1 r2 =>
    obtain ⟨v, w', rfl, a, b⟩ := vals2 r2
    exact ⟨_, _, _, rfl, r1, a, b⟩
theorem vals_refA : ∀ as : List Addr, Vals (as.map V.ref) (as.map Value.ref)
  | [] => .nil
  | a :: as => .cons rfl (vals_refA as)
theorem pe_list_zip (K : PySem.W.Frag) {X : Cx} (hK : X.K = K) {a b c : Expr} {ta : TA} {p p2 pos pos2 : Pos} (hc : X.calm = true) (hg : Gl X "list") (hm : X.mg "list" = none) (hg2 : Gl X "zip") (hm2 : X.mg "zip" = none) (ha : PA X [a, b, c] ta)
    (hs : starEach [.Call (.Name "zip" p2) [a, b, c] [] pos2] X.env = [(false, eval (.Call (.Name "zip" p2) [a, b, c] [] pos2) X.env)] := by rfl) (hs2 : starEach [a, b, c] X.env = (false, eval a X.env) :: starEach [b, c] X.env := by rfl) (hpl : (backTo pos2 (starEach [b, c] X.env)).any (·.1) = false := by rfl) :
    PE X (.Call (.Name "list" p) [.Call (.Name "zip" p2) [a, b, c] [] pos2] [] pos) (tListZip K ta) := by
  subst hK
  intro pins s σ H Q I h
  refine wpAny_Call_Name_kw (ld_blt I hg hm PyProof.Rows.Boot.«list» ?_)
  refine PyProof.Rows.callWith_type1 ?_ hs rfl
  rw [hs]
  show wpAny _ _ (spliced ((false, eval (.Call (.Name "zip" p2) [a, b, c] [] pos2) X.env) :: [])) _ _ s
  refine Calls.spliced_cons (wpAny_Call_Name_kw (ld_blt I hg2 hm2 PyProof.Rows.Boot.«zip» (PyProof.Rows.callWith_type1 (thn (ha pos2 pins s σ H _ I h) fun us s1 ⟨vs, H1, I1, r1, q1⟩ => ?_) hs2 hpl)))
  obtain ⟨a1, a2, a3, xs, ys, zs, rfl, hq1, hq2, hq3, n2, n3, q⟩ := q1
  obtain ⟨u1, u2, u3, rfl, ru1, ru2, ru3⟩ := vals3 r1
  cases ru1
  cases ru2
  cases ru3
  obtain ⟨its1, rv1, pl1, hz1⟩ := I1.list hq1
  obtain ⟨its2, rv2, pl2, hz2⟩ := I1.list hq2
  obtain ⟨its3, rv3, pl3, hz3⟩ := I1.list hq3
  have e1 : xs.length = its1.length := rv1.length
  have e2 : ys.length = its2.length := rv2.length
  have e3 : zs.length = its3.length := rv3.length
  refine call_zp (s := s1) pl1.isList pl2.isList pl3.isList fun h1 st hsz k1 => Calls.spliced_nil ?_
  have b1 : @LT.lt Nat _ a1 s1.heap.objs.size := (let ⟨o, ho, _⟩ := pl1.isList; Heap.lt_size ho)
  have b2 : @LT.lt Nat _ a2 s1.heap.objs.size := (let ⟨o, ho, _⟩ := pl2.isList; Heap.lt_size ho)
  have b3 : @LT.lt Nat _ a3 s1.heap.objs.size := (let ⟨o, ho, _⟩ := pl3.isList; Heap.lt_size ho)
  refine call_list_zp (s := { s1 with heap := h1 }) (n := xs.length) (I1.ok.hd hc) ⟨rfl, rfl, rfl, rfl, rfl, b1, b2, b3⟩ (by rw [List.size_toArray]; omega) (by rw [List.size_toArray]; omega) (by rw [List.size_toArray]; omega) hz1 st fun h' tk acc cc as hk hS hl hG hacc => ?_
  dsimp only at hk hS hG ⊢
  have kk : ∀ b u, s1.heap.get? b = some u → h'.get? b = some u := fun b u e => by
    have hb : @LT.lt Nat _ b s1.heap.objs.size := Heap.lt_size e
    exact hk b u (fun z : @Eq Nat b _ => by omega) (fun z : @Eq Nat b _ => by omega) (fun z : @Eq Nat b _ => by omega) (fun z : @Eq Nat b _ => by omega) (fun z : @Eq Nat b _ => by omega) (k1 b u e)
  have hz : (as.zip (xs.zip (ys.zip zs))).map (·.1) = as := by
    rw [List.map_fst_zip]
    rw [List.length_zip, List.length_zip]
    omega
  have hacc' : acc = (as.map Value.ref).toArray := by rw [← hacc]
  obtain ⟨I2, fr⟩ := Inv.laidL (h' := h') (t' := tk) (zpOps h1.objs.size as xs ys zs) I1 kk (by
    unfold zpOps
    rw [List.map_cons, List.map_map, List.pairwise_cons]
    have e : List.map ((fun x : Addr × HO => x.1) ∘ fun p : Addr × V × V × V => ((p.1, HO.tup [p.2.1, p.2.2.1, p.2.2.2]) : Addr × HO)) (as.zip (xs.zip (ys.zip zs))) = as := hz
    rw [e]
    exact ⟨fun b hb => hG.above b hb, hG.rise⟩) (fun p hp => by
    rcases List.mem_cons.mp hp with rfl | hp
    · show @LE.le Nat _ s1.heap.objs.size h1.objs.size
      omega
    · obtain ⟨y, hy, rfl⟩ := List.mem_map.mp hp
      have : @LT.lt Nat _ h1.objs.size y.1 := hG.above y.1 (by rw [← hz]; exact List.mem_map.mpr ⟨y, hy, rfl⟩)
      show @LE.le Nat _ s1.heap.objs.size y.1
      omega) (fun p hp G hh e => by
    rcases List.mem_cons.mp hp with rfl | hp
    · refine ⟨by rw [List.length_map, hl]; exact hz1, as.map Value.ref, cc, vals_refA as, ?_⟩
      rw [← hacc']
      exact e.trans hS
    · obtain ⟨y, hy, rfl⟩ := List.mem_map.mp hp
      obtain ⟨j, hj, ej⟩ := List.mem_iff_getElem.mp hy
      have hj' : j < xs.length := by
        rw [List.length_zip, List.length_zip, List.length_zip] at hj
        omega
      have ex : xs[j]? = some xs[j] := List.getElem?_eq_getElem hj'
      have ey : ys[j]? = some (ys[j]'(by omega)) := List.getElem?_eq_getElem (by omega)
      have ez : zs[j]? = some (zs[j]'(by omega)) := List.getElem?_eq_getElem (by omega)
      have ea : as[j]? = some (as[j]'(by omega)) := List.getElem?_eq_getElem (by omega)
      rw [List.getElem_zip, List.getElem_zip, List.getElem_zip] at ej
      subst ej
      obtain ⟨w1, w2, w3, f1, f2, f3, ft⟩ := hG.trips j _ ea
      obtain ⟨v1, g1, r1'⟩ := rv1.get ex
      obtain ⟨v2, g2, r2'⟩ := rv2.get ey
      obtain ⟨v3, g3, r3'⟩ := rv3.get ez
      rw [List.getElem?_toArray] at f1 f2 f3
      rw [f1] at g1
      rw [f2] at g2
      rw [f3] at g3
      cases g1
      cases g2
      cases g3
      exact ⟨by rw [sizeLine_eq]; show 3 ≤ _; decide, [w1, w2, w3], .cons r1' (.cons r2' (.cons r3' .nil)), ⟨_, e.trans ft, rfl, _, rfl⟩⟩)
  exact ⟨.ref h1.objs.size, _, I2, rfl, q _ as hl fr⟩

theorem zpOps_facts {H : Hp} {l : Addr} {ts : List Addr} {xs ys zs : List V} (fr : FreshL H (zpOps l ts xs ys zs)) (h1 : ts.length = xs.length) (h2 : ys.length = xs.length) (h3 : zs.length = xs.length) :
    Same H (updL H (zpOps l ts xs ys zs)) ∧ (Plain H → Plain (updL H (zpOps l ts xs ys zs))) ∧ H l = none ∧ updL H (zpOps l ts xs ys zs) l = some (.lst (ts.map V.ref)) ∧
      ∀ (j : Nat) (t : Addr) (x y z : V), ts[j]? = some t → xs[j]? = some x → ys[j]? = some y → zs[j]? = some z → t ≠ l ∧ updL H (zpOps l ts xs ys zs) t = some (.tup [x, y, z]) := by
  have al : updL H (zpOps l ts xs ys zs) l = some (.lst (ts.map V.ref)) := updL_at fr 0 _ rfl
  refine ⟨updL_same fr, fun hp => updL_plain hp ?_, fr.1, al, fun j t x y z e1 e2 e3 e4 => ?_⟩
  · unfold zpOps
    rw [List.all_cons, List.all_map]
    show (true && _) = true
    rw [Bool.true_and, List.all_eq_true]
    intro p _
    rfl
  · have at_ : updL H (zpOps l ts xs ys zs) t = some (.tup [x, y, z]) := updL_at fr (j + 1) (t, .tup [x, y, z]) (by
      unfold zpOps
      rw [List.getElem?_cons_succ, List.getElem?_map, List.getElem?_zip_eq_some (z := (t, x, y, z)).mpr ⟨e1, List.getElem?_zip_eq_some (z := (x, y, z)).mpr ⟨e2, List.getElem?_zip_eq_some (z := (y, z)).mpr ⟨e3, e4⟩⟩⟩]
      rfl)
    refine ⟨fun e => ?_, at_⟩
    rw [e, al] at at_
    cases at_
end L2


set_option linter.all false
set_option maxRecDepth 100000
set_option maxHeartbeats 4000000
namespace FR
open PySem L2

def marks (ws : List Wait) : List Nat := ws.filterMap fun
  | .inl _ => none
  | .inr k => some k
theorem marks_inl (ps : List Str) (ws : List Wait) : marks (ps.map Sum.inl ++ ws) = marks ws := by
  induction ps with
  | nil => rfl
  | cons p ps ih =>
    rw [List.map_cons, List.cons_append]
    unfold marks at ih ⊢
    rw [List.filterMap_cons]
    exact ih
theorem marks_inr (k : Nat) (ws : List Wait) : marks (.inr k :: ws) = k :: marks ws := by
  unfold marks
  rw [List.filterMap_cons]
theorem marks_one (p : Str) (ws : List Wait) : marks (.inl p :: ws) = marks ws := by
  unfold marks
  rw [List.filterMap_cons]

structure Kept (ws : List Wait) (s rd : Rdg) (n : Nat) : Prop where
  bl : rd.bg.length = s.bg.length + n
  sl : rd.st.length = s.st.length + n
  sg : ∃ m, rd.sg = s.sg ++ m
  bg : ∃ m, rd.bg = s.bg ++ m
  st : s.st.length = s.bg.length → ∀ k, k < s.bg.length → ¬ k ∈ marks ws → rd.st[k]? = s.st[k]?
theorem fin_kept {g : Gram} : ∀ (n : Nat) (ws : List Wait) (s rd : Rdg) (ds : List D), 8 * ds.length + ws.length ≤ n → (∀ r ∈ g, r.2.1.length ≤ 6) → fin g ws s ds = some rd → Kept ws s rd ds.length := by
  intro n
  induction n with
  | zero =>
    intro ws s rd ds hn _ hf
    have e1 : ws = [] := List.eq_nil_of_length_eq_zero (by omega)
    have e2 : ds = [] := List.eq_nil_of_length_eq_zero (by omega)
    subst e1 e2
    rw [fin_nil0] at hf
    cases hf
    exact ⟨rfl, rfl, ⟨[], (List.append_nil _).symm⟩, ⟨[], (List.append_nil _).symm⟩, fun _ _ _ _ => rfl⟩
  | succ n ih =>
    intro ws s rd ds hn h6 hf
    cases ws with
    | nil =>
      cases ds with
      | nil =>
        rw [fin_nil0] at hf
        cases hf
        exact ⟨rfl, rfl, ⟨[], (List.append_nil _).symm⟩, ⟨[], (List.append_nil _).symm⟩, fun _ _ _ _ => rfl⟩
      | cons d ds => rw [fin_nil1] at hf; cases hf
    | cons w ws =>
      rw [List.length_cons] at hn
      cases w with
      | inr k =>
        rw [fin_mark] at hf
        have K := ih ws _ rd ds (by omega) h6 hf
        refine ⟨K.bl, K.sl.trans (by show (s.st.set _ _).length + _ = _; rw [List.length_set]), K.sg, K.bg, fun hl j hj hm => ?_⟩
        rw [marks_inr, List.mem_cons, not_or] at hm
        have := K.st (by show (s.st.set _ _).length = _; rw [List.length_set]; exact hl) j hj hm.2
        rw [this]
        show (s.st.set k _)[j]? = _
        rw [List.getElem?_set_ne (fun e => hm.1 e.symm)]
      | inl p =>
        by_cases hq : isQ p = true
        · rw [fin_sign hq] at hf
          have K := ih ws _ rd ds (by omega) h6 hf
          refine ⟨K.bl, K.sl, ?_, K.bg, fun hl j hj hm => K.st hl j hj (by rw [marks_one] at hm; exact hm)⟩
          obtain ⟨m, e⟩ := K.sg
          exact ⟨sgn p :: m, by rw [e]; show (s.sg ++ [sgn p]) ++ m = _; rw [List.append_assoc]; rfl⟩
        · have hq' : isQ p = false := Bool.eq_false_iff.mpr hq
          have hn0 := fin_name (g := g) hq' ws s ds 0
          rw [List.drop_zero, hf] at hn0
          cases hx : nextR g ds 0 p with
          | none => rw [hx] at hn0; cases hn0
          | some kr =>
            obtain ⟨k, r⟩ := kr
            rw [hx] at hn0
            obtain ⟨e1, er, ez⟩ := nextR_some hx
            have h0 : 0 < ds.length := (List.getElem?_eq_some_iff.mp e1).1
            have := h6 r (List.mem_of_getElem? er)
            have K := ih _ _ rd (ds.drop 1) (by simp only [List.length_append, List.length_map, List.length_cons, List.length_drop]; omega) h6 hn0.symm
            obtain ⟨bl, sl, sg, ⟨m, bg⟩, st⟩ := K
            rw [List.length_drop, List.length_append] at bl sl
            have bl : rd.bg.length = s.bg.length + 1 + (ds.length - (0 + 1)) := bl
            have sl : rd.st.length = s.st.length + 1 + (ds.length - (0 + 1)) := sl
            refine ⟨by omega, by omega, sg, ⟨s.sg.length :: m, by rw [bg]; show (s.bg ++ [s.sg.length]) ++ m = _; rw [List.append_assoc]; rfl⟩, fun hl j hj hm => ?_⟩
            have := st (by show (s.st ++ [_]).length = (s.bg ++ [_]).length; rw [List.length_append, List.length_append, hl]) j (by show j < (s.bg ++ [_]).length; rw [List.length_append]; omega) (by
              rw [marks_inl, marks_inr, List.mem_cons, not_or]
              rw [marks_one] at hm
              exact ⟨by omega, hm⟩)
            rw [this]
            show (s.st ++ [_])[j]? = _
            rw [List.getElem?_append_left (by omega)]
theorem read_lens {g : Gram} (hg : okGram g = true) {ds : List D} {rd : Rdg} (h : readG g ds = some rd) : rd.bg.length = ds.length ∧ rd.st.length = ds.length := by
  unfold readG at h
  split at h
  · cases h
  · have K := fin_kept _ _ _ rd ds (Nat.le_refl _) (six hg) h
    have h1 := K.bl
    have h2 := K.sl
    simp only [List.length_nil, Nat.zero_add] at h1 h2
    exact ⟨h1, h2⟩

theorem fin_end {g : Gram} (h6 : ∀ r ∈ g, r.2.1.length ≤ 6) {k : Nat} {ws : List Wait} {s rd : Rdg} {ds : List D} (h : fin g (.inr k :: ws) s ds = some rd) (hl : s.st.length = s.bg.length) (hk : k < s.bg.length) (hm : ¬ k ∈ marks ws) : rd.st[k]? = some s.sg.length := by
  rw [fin_mark] at h
  have K := fin_kept _ _ _ rd ds (Nat.le_refl _) h6 h
  rw [K.st (by show (s.st.set _ _).length = _; rw [List.length_set]; exact hl) k hk hm]
  show (s.st.set k _)[k]? = _
  rw [List.getElem?_set_self (by omega)]

def WkSt (g : Gram) (ks : List Nat) (rd : Rdg) (ws : List Wait) (at_ here : Nat) : Prop := ∃ s : Rdg, fin g ws s ((ks.map intD).drop at_) = some rd ∧ s.sg.length = here ∧ s.bg.length = at_ ∧ s.st.length = at_ ∧ (marks ws).Nodup ∧ (∀ k ∈ marks ws, k < at_) ∧ (∀ p, Sum.inl p ∈ ws → isPartS p = true) ∧ at_ ≤ ks.length
theorem WkSt.mark {g : Gram} {ks : List Nat} {rd : Rdg} {k : Nat} {ws : List Wait} {at_ here : Nat} (h6 : ∀ r ∈ g, r.2.1.length ≤ 6) (h : WkSt g ks rd (.inr k :: ws) at_ here) : rd.st.getD k 0 = here ∧ WkSt g ks rd ws at_ here := by
  obtain ⟨s, hf, hs, hb, ht, nd, hm, hp, ha⟩ := h
  rw [marks_inr] at nd hm
  have nd := List.nodup_cons.mp nd
  have e := fin_end h6 hf (by omega) (by rw [hb]; exact hm k (List.mem_cons_self ..)) nd.1
  rw [fin_mark] at hf
  refine ⟨by rw [List.getD_eq_getElem?_getD, e]; exact hs, ⟨_, hf, hs, hb, by show (s.st.set _ _).length = _; rw [List.length_set]; exact ht, nd.2, fun j hj => hm j (List.mem_cons_of_mem _ hj), fun p h => hp p (List.mem_cons_of_mem _ h), ha⟩⟩
theorem WkSt.sign {g : Gram} {ks : List Nat} {rd : Rdg} {p : Str} {ws : List Wait} {at_ here : Nat} (h6 : ∀ r ∈ g, r.2.1.length ≤ 6) (hq : isQ p = true) (h : WkSt g ks rd (.inl p :: ws) at_ here) : rd.sg[here]? = some (sgn p) ∧ WkSt g ks rd ws at_ (here + 1) := by
  obtain ⟨s, hf, hs, hb, ht, nd, hm, hp, ha⟩ := h
  rw [marks_one] at nd hm
  rw [fin_sign hq] at hf
  obtain ⟨m, e⟩ := (fin_kept _ _ _ rd _ (Nat.le_refl _) h6 hf).sg
  have e : rd.sg = (s.sg ++ [sgn p]) ++ m := e
  refine ⟨?_, ⟨_, hf, by show (s.sg ++ [_]).length = _; rw [List.length_append, hs]; rfl, hb, ht, nd, hm, fun p h => hp p (List.mem_cons_of_mem _ h), ha⟩⟩
  rw [e, List.append_assoc, List.getElem?_append_right (by omega), hs, Nat.sub_self]
  rfl
theorem WkSt.name {g : Gram} (hg : okGram g = true) {ks : List Nat} {rd : Rdg} {p : Str} {ws : List Wait} {at_ here : Nat} (hq : isQ p = false) (h : WkSt g ks rd (.inl p :: ws) at_ here) :
    ∃ (k : Nat) (r : Rule) (e : Nat), ks[at_]? = some k ∧ g[k]? = some r ∧ r.1 = p ∧ rd.bg[at_]? = some here ∧ rd.st[at_]? = some e ∧ WkSt g ks rd (r.2.1.map Sum.inl ++ (.inr at_ :: ws)) (at_ + 1) here := by
  have h6 := six hg
  obtain ⟨s, hf, hs, hb, ht, nd, hm, hp, ha⟩ := h
  rw [marks_one] at nd hm
  rw [fin_name hq] at hf
  cases hx : nextR g (ks.map intD) at_ p with
  | none => rw [hx] at hf; cases hf
  | some kr =>
    obtain ⟨k, r⟩ := kr
    rw [hx] at hf
    have hf : fin g (r.2.1.map Sum.inl ++ (Sum.inr s.bg.length :: ws)) ⟨s.sg, s.bg ++ [s.sg.length], s.st ++ [s.sg.length]⟩ ((ks.map intD).drop (at_ + 1)) = some rd := hf
    obtain ⟨e1, er, ez⟩ := nextR_some hx
    have K := fin_kept _ _ _ rd _ (Nat.le_refl _) h6 hf
    have ek : ks[at_]? = some k := by
      rw [List.getElem?_map] at e1
      cases eo : ks[at_]? with
      | none => rw [eo] at e1; cases e1
      | some k' =>
        rw [eo] at e1
        have e1 : D.int (k' : Int) = D.int (k : Int) := Option.some.inj e1
        injection e1 with e1
        congr 1
        omega
    have hlt : at_ < ks.length := (List.getElem?_eq_some_iff.mp ek).1
    obtain ⟨m, eb⟩ := K.bg
    have eb : rd.bg = (s.bg ++ [s.sg.length]) ++ m := eb
    have sl := K.sl
    rw [List.length_append] at sl
    have sl : rd.st.length = s.st.length + 1 + _ := sl
    have hst : rd.st[at_]? = some (rd.st[at_]'(by omega)) := List.getElem?_eq_getElem (by omega)
    rw [hb] at hf
    refine ⟨k, r, _, ek, er, ez, ?_, hst, ⟨_, hf, hs, by show (s.bg ++ [_]).length = _; rw [List.length_append, hb]; rfl, by show (s.st ++ [_]).length = _; rw [List.length_append, ht]; rfl, ?_, ?_, ?_, by omega⟩⟩
    · rw [eb, List.append_assoc, List.getElem?_append_right (by omega), hb, Nat.sub_self]
      show some s.sg.length = _
      rw [hs]
    · rw [marks_inl, marks_inr]
      exact List.nodup_cons.mpr ⟨fun h => absurd (hm at_ h) (Nat.lt_irrefl _), nd⟩
    · intro j hj
      rw [marks_inl, marks_inr] at hj
      rcases List.mem_cons.mp hj with e | hj
      · omega
      · exact Nat.lt_succ_of_lt (hm j hj)
    · intro z hz
      rcases List.mem_append.mp hz with hz | hz
      · obtain ⟨y, hy, e⟩ := List.mem_map.mp hz
        cases e
        exact (rule_parts (rule_okB hg er)).2 z hy
      · rcases List.mem_cons.mp hz with e | hz
        · cases e
        · exact hp z (List.mem_cons_of_mem _ hz)
theorem WkSt.fin {g : Gram} {ks : List Nat} {rd : Rdg} {at_ here : Nat} (h : WkSt g ks rd [] at_ here) : rd.sg.length = here ∧ at_ = ks.length := by
  obtain ⟨s, hf, hs, hb, ht, nd, hm, hp, ha⟩ := h
  cases hd : (ks.map intD).drop at_ with
  | nil =>
    rw [hd, fin_nil0] at hf
    cases hf
    have := List.drop_eq_nil_iff.mp hd
    rw [List.length_map] at this
    exact ⟨hs, by omega⟩
  | cons d ds =>
    rw [hd, fin_nil1] at hf
    cases hf
theorem WkSt.start {g : Gram} (hg : okGram g = true) {ks : List Nat} {rd : Rdg} {r0 : Rule} {rest : Gram} (eg : g = r0 :: rest) (h : readG g (ks.map intD) = some rd) : WkSt g ks rd [.inl r0.1] 0 0 := by
  unfold readG at h
  rw [if_neg (by rw [eg]; exact fun h => nomatch h)] at h
  have : startW g = [.inl r0.1] := by rw [eg]; rfl
  rw [this] at h
  refine ⟨⟨[], [], []⟩, h, rfl, rfl, rfl, List.Pairwise.nil, (fun k h => nomatch h), fun p hp => ?_, Nat.zero_le _⟩
  cases List.mem_singleton.mp hp
  exact name_partB (rule_head (rule_okB hg (i := 0) (by rw [eg]; rfl)))

def wq (rd : Rdg) : Wait → Str × Int
  | .inl p => (p, 0)
  | .inr k => ("", (rd.st.getD k 0 : Nat))
def pD (q : Str × Int) : D := .tup [.str q.1, .int q.2]
def spSpansOf (CG CN : Addr) : Sp := fun vs H Q E => ∃ (x y : V) (dg d : D), vs = [x, y] ∧ Den H x dg ∧ dg.short = true ∧ Den H y d ∧ d.short = true ∧ (∀ ds, d = .lst ds → ds.length ≤ 2000) ∧ Plain H ∧
  (∀ g, dg = gramD g → okGram g = true → (∀ (ds : List D) (rd : Rdg) (l : Addr) (ts : List Addr) (H' : Hp), d = .lst ds → readG g ds = some rd → Same H H' → Plain H' → H l = none → H' l = some (.lst (ts.map V.ref)) → ts.length = ds.length →
      (∀ (j : Nat) (t : Addr) (k : Int) (b e : Nat), ts[j]? = some t → ds[j]? = some (.int k) → rd.bg[j]? = some b → rd.st[j]? = some e → t ≠ l ∧ H' t = some (.tup [.int k, nV b, nV e])) → Q (.ref l) H') ∧ (readD g d = none → ∀ H', Same H H' → Plain H' → E (.ref CN) none H')) ∧ (isGramD dg = false → ∀ H', Same H H' → Plain H' → E (.ref CG) none H')
end FR


set_option linter.all false
set_option maxRecDepth 100000
set_option maxHeartbeats 4000000
namespace L2
open PySem PySem.Spec PyProof.Rows
section
variable {X : Cx}
theorem op_eq_deepE (K : PySem.W.Frag) (hK : X.K = K) (hu : X.A.units + 64 < cLine) : OpR X (compareOp .Eq) (fun x y H Q => (∃ d d', Den H x d ∧ Den H y d' ∧ d.ok = true ∧ d'.ok = true ∧ d.dep ≤ 64 ∧ Q (.bl (eqD d d')) H) ∨
    ∃ a b kvs kvs', x = .ref a ∧ y = .ref b ∧ Rd H a (.dK kvs) ∧ Rd H b (.dK kvs') ∧ SameD kvs kvs' ∧ Q (.bl true) H) := (op_eq_deep K hK hu).or (op_eq_dict (by omega))
end
end L2


set_option linter.all false
set_option maxRecDepth 100000
set_option maxHeartbeats 4000000
namespace L2
open PySem PySem.Spec PyProof.Rows
section
variable {X : Cx} {x : Str} {p pos : Pos} {e : Expr} {te : St → Hp → VK → XK → Prop} {id : String} {r : List V → Hp → VK → Prop}
def tB1X (r : List V → Hp → VK → Prop) (te : St → Hp → VK → XK → Prop) : St → Hp → VK → XK → Prop := fun σ H Q E => te σ H (fun v H1 => r [v] H1 Q) E
theorem pex_B1 (hc : CallR X.nox (.builtin id) r) (hg : Gl X x) (hm : X.mg x = none) (hv : bootBuiltins x = some (.builtin id)) (ha : PEX X e te) (hn : x ≠ "__name__" := by decide) (hdb : (x == ("__debug__" : Str)) = false := by decide)
    (he : starEach [e] X.env = [(false, eval e X.env)] := by rfl) : PEX X (.Call (.Name x p) [e] [] pos) (tB1X r te) := by
  intro pins s σ H Q E I h
  refine wpAny_Call_Name_kw (ld_blt I hg hm hv ?_ hn hdb)
  refine PyProof.Rows.callWith_builtin1 ?_ he rfl
  rw [he]
  show wpAny _ _ (spliced ((false, eval e X.env) :: backTo pos [])) _ _ s
  refine Calls.spliced_cons (wpAny_mono (ha pins s σ H _ _ I h) (fun u s1 ⟨v, H1, I1, r1, q1⟩ => Calls.spliced_nil ?_) fun _ _ z => z)
  exact wpAny_mono (hc pins s1 σ H1 [v] [u] Q (I1.wish _) (.cons r1 .nil) q1) (fun _ _ ⟨v2, H2, I2, r2, q2⟩ => ⟨v2, H2, I2.unwish, r2, q2⟩) fun _ _ z => z.elim
end
end L2


set_option linter.all false
set_option maxRecDepth 100000
set_option maxHeartbeats 4000000
namespace FR
open PySem L2
def top (i : Nat) : Stmt := PySem.Challenge.pw_forestread_k05_rows_refused.main.body.getD i (.Pass ⟨0, 0, 0, 0⟩)
abbrev s_is_whole : Stmt := top 18
abbrev s_stands_in_texts : Stmt := top 19
abbrev s_is_sign : Stmt := top 20
abbrev s_is_name : Stmt := top 21
abbrev s_is_part : Stmt := top 22
abbrev s_is_worth : Stmt := top 26
abbrev s_are_parts : Stmt := top 27
abbrev s_is_rule : Stmt := top 28
abbrev s_is_grammar : Stmt := top 29
abbrev s_checked : Stmt := top 30
structure Adr where
  NoGrammar : Addr
  NoRow : Addr
  Reading : Addr
  ForestError : Addr
  Barren : Addr
  Endless : Addr
  NoChange : Addr
  NoCosts : Addr
  NoNumber : Addr
  NoRule : Addr
  NoText : Addr
  NoWords : Addr
  TooGreat : Addr
  none_ : Addr
structure Txt (K : PySem.W.Frag) (mg : Str → Option Value) (C : Adr) : Prop where
  z_isinstance : mg "isinstance" = none
  z_int : mg "int" = none
  z_bool : mg "bool" = none
  z_ord : mg "ord" = none
  z_str : mg "str" = none
  z_len : mg "len" = none
  z_all : mg "all" = none
  z_tuple : mg "tuple" = none
  z_list : mg "list" = none
  z_reversed : mg "reversed" = none
  z_sum : mg "sum" = none
  z_zip : mg "zip" = none
  z_range : mg "range" = none
  z_ValueError : mg "ValueError" = none
  g_FIRST_CODE : ∃ t, mg "FIRST_CODE" = some (.int 32 t)
  g_LAST_CODE : ∃ t, mg "LAST_CODE" = some (.int 126 t)
  g_PERCENT_CODE : ∃ t, mg "PERCENT_CODE" = some (.int 37 t)
  g_MOST_LETTERS : ∃ t, mg "MOST_LETTERS" = some (.int 8 t)
  g_MOST_PARTS : ∃ t, mg "MOST_PARTS" = some (.int 6 t)
  g_MOST_RULES : ∃ t, mg "MOST_RULES" = some (.int 60 t)
  n_NoGrammar : mg "NoGrammar" = some (.ref C.NoGrammar)
  n_NoRow : mg "NoRow" = some (.ref C.NoRow)
  n_Reading : mg "Reading" = some (.ref C.Reading)
  n_ForestError : mg "ForestError" = some (.ref C.ForestError)
  n_Barren : mg "Barren" = some (.ref C.Barren)
  n_Endless : mg "Endless" = some (.ref C.Endless)
  n_NoChange : mg "NoChange" = some (.ref C.NoChange)
  n_NoCosts : mg "NoCosts" = some (.ref C.NoCosts)
  n_NoNumber : mg "NoNumber" = some (.ref C.NoNumber)
  n_NoRule : mg "NoRule" = some (.ref C.NoRule)
  n_NoText : mg "NoText" = some (.ref C.NoText)
  n_NoWords : mg "NoWords" = some (.ref C.NoWords)
  n_TooGreat : mg "TooGreat" = some (.ref C.TooGreat)
  x_NoGrammar : Exc K C.NoGrammar
  x_NoRow : Exc K C.NoRow
  cl_Reading : Cls K C.Reading
  na_Reading_rules : NoAttr K C.Reading "rules"
  na_Reading_row : NoAttr K C.Reading "row"
  na_Reading_signs : NoAttr K C.Reading "signs"
  na_Reading_begins : NoAttr K C.Reading "begins"
  na_Reading_stops : NoAttr K C.Reading "stops"
  hit : PySem.W.exmOne K (.ref C.NoRow) (.ref C.ForestError) = some true
  hitG : PySem.W.exmOne K (.ref C.NoGrammar) (.ref C.NoGrammar) = some true
  val : PySem.W.kitOne K (.ref C.NoRow) (.type "ValueError") = some true
  no1 : PySem.W.kitAny K (.ref C.NoRow) [.ref C.Barren, .ref C.Endless, .ref C.NoChange, .ref C.NoCosts, .ref C.NoNumber] = some false
  no2 : PySem.W.kitAny K (.ref C.NoRow) [.ref C.NoGrammar, .ref C.NoRule, .ref C.NoText, .ref C.NoWords, .ref C.TooGreat] = some false
  xga_NoRow : PySem.W.findIn K (.ref C.NoRow) "__getattribute__" = some (some (.builtin "BaseException.__getattribute__"))
  xgt_NoRow : PySem.W.findIn K (.ref C.NoRow) "__getattr__" = some none
  xcl_NoRow : PySem.W.findIn K (.ref C.NoRow) "__class__" = some (some (.builtin "object.__class__"))
  xmb_NoRow : PySem.W.mroIn K C.NoRow (.type "BaseException") = some true
  xmo_NoRow : PySem.W.mroIn K C.NoRow (.type "object") = some true
  xgs_ : PySem.W.specialIn K (.builtin "object.__class__") "__get__" = some (some (.builtin "getset_descriptor.__get__"))
  xtk_ : PySem.W.takesIn K (.builtin "object.__class__") = some true
theorem nd_P1b_letter : (["letter"] : List Str).Nodup := by decide +kernel
theorem nd_P1b_part : (["part"] : List Str).Nodup := by decide +kernel
section
variable {P : Program} {w : World} {K : PySem.W.Frag} {mg : Str → Option Value} {base : Heap} {C : Adr}
theorem sc_is_whole : FnScope ["thing"] ["thing"] (defScope s_is_whole) := ⟨rfl, rfl, rfl, by decide +kernel, rfl, by decide +kernel, by decide +kernel⟩
theorem ok_is_whole {f : Addr} {fd : FuncData} (F : Fun K "is_whole" "is_whole" s_is_whole f fd) (T : Txt K mg C) : FnOk P w K mg base CX0 1 f fd ["thing"] (spIs isWholeD) := by
  refine F.ok sc_is_whole (fun vs H Q E h => ?_) (fun cdv A outer s H vs Q E hr h => ?_)
  · obtain ⟨x, d, rfl, _⟩ := h
    rfl
  · obtain ⟨x, d, rfl, den, sh, hp, q⟩ := h
    refine ⟨_, (pss_one (ps_ret (pe_and (pe_callB (call_isiK K rfl) (by rfl) T.z_isinstance PyProof.Rows.Boot.«isinstance» (pa_cons (pv 0) (pa_cons (pe_bltn (v := .ty "int") (by rfl) T.z_int PyProof.Rows.Boot.«int» rfl) pa_nil))) (pe_one (pe_not (pe_callB (call_isiK K rfl) (by rfl) T.z_isinstance PyProof.Rows.Boot.«isinstance» (pa_cons (pv 0) (pa_cons (pe_bltn (v := .ty "bool") (by rfl) T.z_bool PyProof.Rows.Boot.«bool» rfl) pa_nil)))))))), ?_⟩
    refine ⟨_, rfl, _, _, _, _, _, rfl, den.ty, rfl, kit_int d, _, rfl, ?_⟩
    refine and_read (g := !isBoolD d) (fun _ R hR => ⟨_, rfl, _, _, _, _, _, rfl, den.ty, rfl, kit_bool d, _, rfl, hR⟩) ?_
    cases d <;> exact q
theorem sc_stands_in_texts : FnScope ["sign", "code"] ["sign"] (defScope s_stands_in_texts) := ⟨rfl, rfl, rfl, by decide +kernel, rfl, by decide +kernel, by decide +kernel⟩
theorem ok_stands_in_texts {f : Addr} {fd : FuncData} (F : Fun K "stands_in_texts" "stands_in_texts" s_stands_in_texts f fd) (T : Txt K mg C) : FnOk P w K mg base CX0 1 f fd ["sign"] (spStands) := by
  obtain ⟨t_FIRST_CODE, g_FIRST_CODE⟩ := T.g_FIRST_CODE
  obtain ⟨t_LAST_CODE, g_LAST_CODE⟩ := T.g_LAST_CODE
  obtain ⟨t_PERCENT_CODE, g_PERCENT_CODE⟩ := T.g_PERCENT_CODE
  refine F.ok sc_stands_in_texts (fun vs H Q E h => ?_) (fun cdv A outer s H vs Q E hr h => ?_)
  · obtain ⟨c, rfl, _⟩ := h
    rfl
  · obtain ⟨c, rfl, q⟩ := h
    refine ⟨_, (pss_cons (ps_set (i := 1) sc_stands_in_texts.nd rfl (Or.inl rfl) (pe_callB call_ord (by rfl) T.z_ord PyProof.Rows.Boot.«ord» (pa_cons (pv 0) pa_nil)))
      (pss_one (ps_ret (pe_and (pe_chain op_le op_le (pe_glob (v := .int 32) (by rfl) g_FIRST_CODE ⟨_, rfl⟩) (pv 1) (pe_glob (v := .int 126) (by rfl) g_LAST_CODE ⟨_, rfl⟩)) (pe_one (pe_cmpR op_ne (pv 1) (pe_glob (v := .int 37) (by rfl) g_PERCENT_CODE ⟨_, rfl⟩) (nomark _))))))), ?_⟩
    refine ⟨_, rfl, _, rfl, rfl, ?_⟩
    refine ⟨_, rfl, _, _, rfl, rfl, _, rfl, ?_⟩
    have ec : (((⟨#[c]⟩ : Str).cps.getD 0 0 : Nat) : Int) = (c : Int) := rfl
    rw [ec]
    refine ite2 (fun h1 => ?_) fun h1 => ?_
    · refine ⟨_, _, rfl, rfl, _, rfl, ?_⟩
      refine ite2 (fun h2 => ?_) fun h2 => ?_
      · refine ⟨_, rfl, rfl, ?_⟩
        have e : (!decide (V.int (c : Int) = V.int 37)) = good c := by
          simp only [decide_eq_true_eq] at h1 h2
          unfold good
          have a1 : 32 ≤ c := by omega
          have a2 : c ≤ 126 := by omega
          rw [decide_eq_true a1, decide_eq_true a2]
          by_cases h3 : c = 37
          · subst h3; rfl
          · rw [decide_eq_false h3, decide_eq_false (fun z => h3 (by have := V.int.inj z; omega))]; rfl
        rw [e]
        exact q
      · have e : good c = false := by
          simp only [decide_eq_true_eq] at h2
          unfold good
          rw [decide_eq_false (show ¬ c ≤ 126 by omega)]
          simp
        rw [e] at q
        exact q
    · refine ⟨_, rfl, iteF ?_⟩
      have e : good c = false := by
        simp only [decide_eq_true_eq] at h1
        unfold good
        rw [decide_eq_false (show ¬ 32 ≤ c by omega)]
        simp
      rw [e] at q
      exact q
theorem first39 (z : Str) : decide (V.str ⟨#[z.cps.getD 0 0]⟩ = V.str "'") = decide (z.cps.getD 0 0 = 39) := by
  by_cases h : z.cps.getD 0 0 = 39
  · rw [h]; decide +kernel
  · rw [decide_eq_false h, decide_eq_false]
    intro e
    apply h
    have e6 : (({ cps := #[z.cps.getD 0 0] } : Str)).cps.getD 0 0 = (("'" : Str)).cps.getD 0 0 := congrArg (fun s : Str => s.cps.getD 0 0) (V.str.inj e)
    exact (show z.cps.getD 0 0 = (({ cps := #[z.cps.getD 0 0] } : Str)).cps.getD 0 0 from rfl).trans (e6.trans (by decide +kernel))
theorem sc_is_sign : FnScope ["thing"] ["thing"] (defScope s_is_sign) := ⟨rfl, rfl, rfl, by decide +kernel, rfl, by decide +kernel, by decide +kernel⟩
theorem ok_is_sign {f : Addr} {fd : FuncData} (F : Fun K "is_sign" "is_sign" s_is_sign f fd) (T : Txt K mg C) (U_stands_in_texts : Used P w K mg CX0 1 "stands_in_texts" ["sign"] (spStands)) : FnOk P w K mg base CX0 2 f fd ["thing"] (spIs isSignD) := by
  obtain ⟨f_stands_in_texts, fd_stands_in_texts, G_stands_in_texts, m_stands_in_texts, k_stands_in_texts, b_stands_in_texts⟩ := U_stands_in_texts.ok
  refine F.ok sc_is_sign (fun vs H Q E h => ?_) (fun cdv A outer s H vs Q E hr h => ?_)
  · obtain ⟨x, d, rfl, _⟩ := h
    rfl
  · obtain ⟨x, d, rfl, den, sh, hp, q⟩ := h
    refine ⟨_, (pss_one (ps_ret (pe_and (pe_callB (call_isiK K rfl) (by rfl) T.z_isinstance PyProof.Rows.Boot.«isinstance» (pa_cons (pv 0) (pa_cons (pe_bltn (v := .ty "str") (by rfl) T.z_str PyProof.Rows.Boot.«str» rfl) pa_nil))) (pe_and (pe_cmpR op_eq (pe_callB call_len_str (by rfl) T.z_len PyProof.Rows.Boot.«len» (pa_cons (pv 0) pa_nil)) pe_int (nomark _)) (pe_and (pe_cmpR op_eq (pe_ix ix_str (pv 0) pe_int (fun _ _ => rfl)) pe_str (nomark _)) (pe_one (pe_call (G_stands_in_texts base) (hr.mono (by decide)) (by rfl) m_stands_in_texts k_stands_in_texts b_stands_in_texts .nil pass0 (pa_cons (pe_ix ix_str (pv 0) pe_int (fun _ _ => rfl)) pa_nil)))))))), ?_⟩
    refine ⟨_, rfl, _, _, _, _, _, rfl, den.ty, rfl, kit_str d, _, rfl, ?_⟩
    cases d with
    | str z =>
      have ex := den.to_str
      subst ex
      have hz := short_line sh
      have ev : isSignD (.str z) = (z.cps.size == 2 && z.cps[0]? == some 39 && good (z.cps.getD 1 0)) := rfl
      refine iteT ?_
      refine ⟨_, rfl, z, rfl, hz, rfl, _, rfl, ?_⟩
      refine and_read (g := decide (z.cps.getD 0 0 = 39) && good (z.cps.getD 1 0)) (fun h2 R hR => ?_) ?_
      · have hs : z.cps.size = 2 := by
          have e := V.int.inj (of_decide_eq_true h2)
          rw [size_len] at e
          omega
        have g0 : z.cps.toList[0]? = some (z.cps.getD 0 0) := by
          rw [Array.getElem?_toList]; simp [hs]
        have g1 : z.cps.toList[1]? = some (z.cps.getD 1 0) := by
          rw [Array.getElem?_toList]; simp [hs]
        refine ⟨_, rfl, z, 0, _, rfl, rfl, hz, atI_nat (j := 0) g0, rfl, _, rfl, ?_⟩
        rw [first39]
        exact and_read (g := good (z.cps.getD 1 0)) (fun _ R hR => ⟨_, rfl, z, 1, _, rfl, rfl, hz, atI_nat (j := 1) g1, _, rfl, hR⟩) hR
      · have e2 : (decide (V.int (z.length : Int) = V.int 2) && (decide (z.cps.getD 0 0 = 39) && good (z.cps.getD 1 0))) = isSignD (.str z) := by
          rw [ev, size_len, Bool.and_assoc]
          by_cases h2 : z.cps.size = 2
          · have g0 : z.cps[0]? = some (z.cps.getD 0 0) := by simp [h2]
            have e4 : (some (z.cps.getD 0 0) == some 39) = decide (z.cps.getD 0 0 = 39) := by
              rw [Bool.eq_iff_iff]; simp
            rw [g0, e4]
            congr 1
            rw [h2]; decide
          · rw [decide_eq_false (fun e => h2 (by have := V.int.inj e; omega)), beq_eq_false_iff_ne.mpr h2]
            rfl
        rw [e2]
        exact q
    | _ => exact iteF q
theorem sc_is_name : FnScope ["thing"] ["thing"] (defScope s_is_name) := ⟨rfl, rfl, rfl, by decide +kernel, rfl, by decide +kernel, by decide +kernel⟩
theorem ok_is_name {f : Addr} {fd : FuncData} (F : Fun K "is_name" "is_name" s_is_name f fd) (T : Txt K mg C) : FnOk P w K mg base CX0 1 f fd ["thing"] (spIs isNameD) := by
  obtain ⟨t_MOST_LETTERS, g_MOST_LETTERS⟩ := T.g_MOST_LETTERS
  refine F.ok sc_is_name (fun vs H Q E h => ?_) (fun cdv A outer s H vs Q E hr h => ?_)
  · obtain ⟨x, d, rfl, _⟩ := h
    rfl
  · obtain ⟨x, d, rfl, den, sh, hp, q⟩ := h
    refine ⟨_, (pss_cons (ps_if (pt_not (pt_val (pe_callB (call_isiK K rfl) (by rfl) T.z_isinstance PyProof.Rows.Boot.«isinstance» (pa_cons (pv 0) (pa_cons (pe_bltn (v := .ty "str") (by rfl) T.z_str PyProof.Rows.Boot.«str» rfl) pa_nil))))) (pss_one (ps_ret pe_bl)) pss_nil)
      (pss_one (ps_ret (pe_and (pe_chain op_le op_le pe_int (pe_callB call_len_str (by rfl) T.z_len PyProof.Rows.Boot.«len» (pa_cons (pv 0) pa_nil)) (pe_glob (v := .int 8) (by rfl) g_MOST_LETTERS ⟨_, rfl⟩)) (pe_one (pe_pure (pe_callB (call_allK K rfl rfl) (by rfl) T.z_all PyProof.Rows.Boot.«all» (pa_cons (pe_comp (N := ["letter"]) (ρ := [none]) (cl := []) rfl (CompScope.plain rfl (by decide +kernel) (by decide +kernel) rfl (by simp)) (pi_str (pv 0)) (fun _ _ _ _ _ => (pg_name (i := 0) nd_P1b_letter rfl (Or.inl rfl) (.inr rfl))) (fun _ _ _ _ _ => pts_nil) (fun _ _ _ _ _ => (pe_chain op_le_str op_le_str pe_str (pv 0) pe_str))) pa_nil)))))))), ?_⟩
    refine ⟨_, rfl, _, _, _, _, _, rfl, den.ty, rfl, kit_str d, _, rfl, ?_⟩
    cases d with
    | str z =>
      have ex := den.to_str
      subst ex
      have hz := short_line sh
      have ev : isNameD (.str z) = (decide (1 ≤ z.cps.size) && decide (z.cps.size ≤ 8) && z.cps.toList.all letter) := rfl
      refine iteF ?_
      refine ⟨_, rfl, z, rfl, hz, _, _, rfl, rfl, _, rfl, ?_⟩
      refine ite2 (fun h1 => ?_) fun h1 => ?_
      · refine ⟨_, _, rfl, rfl, _, rfl, ?_⟩
        have h1' : 1 ≤ z.cps.size := by have := of_decide_eq_true h1; rw [size_len] at this; omega
        refine ite2 (fun h2 => ?_) fun h2 => ?_
        · have h2' : z.cps.size ≤ 8 := by have := of_decide_eq_true h2; rw [size_len] at this; omega
          refine ⟨hp, _, rfl, z, rfl, fun l hl => ?_⟩
          refine comp_str (τ := pick [none] _) (fun c => .bl (letter c)) hl Nat.zero_lt_one hz (fun τ' c H' R hτ _ hR => ?_) ?_
          · refine ⟨_, hτ, _, _, rfl, rfl, _, rfl, ?_⟩
            rw [le_A]
            refine ite2 (fun h3 => ?_) fun h3 => ?_
            · refine ⟨_, _, rfl, rfl, ?_⟩
              rw [le_Z]
              have e5 : letter c = decide (c ≤ 90) := by unfold letter; rw [h3]; rfl
              rw [e5] at hR
              exact hR
            · have e5 : letter c = false := by
                unfold letter
                cases hh : decide (65 ≤ c) with
                | false => rfl
                | true => exact absurd hh h3
              rw [e5] at hR
              exact hR
          · refine ⟨l, z.cps.toList.map letter, rfl, .inl (.inl ?_), fun b o eb => ?_, ?_⟩
            · rw [upd_same, map_bl]
            · rw [upd_ne (ne_of_none eb hl)]; exact eb
            · rw [all_map_id]
              rw [ev, decide_eq_true h1', decide_eq_true h2'] at q
              simpa using q
        · have h2' : ¬ z.cps.size ≤ 8 := fun z' => h2 (decide_eq_true (by rw [size_len]; omega))
          rw [ev, decide_eq_false h2'] at q
          simpa using q
      · have h1' : ¬ 1 ≤ z.cps.size := fun z' => h1 (decide_eq_true (by rw [size_len]; omega))
        refine ⟨_, rfl, iteF ?_⟩
        rw [ev, decide_eq_false h1'] at q
        simpa using q
    | _ => exact iteT q
theorem sc_is_part : FnScope ["thing"] ["thing"] (defScope s_is_part) := ⟨rfl, rfl, rfl, by decide +kernel, rfl, by decide +kernel, by decide +kernel⟩
theorem ok_is_part {f : Addr} {fd : FuncData} (F : Fun K "is_part" "is_part" s_is_part f fd) (T : Txt K mg C) (U_is_sign : Used P w K mg CX0 2 "is_sign" ["thing"] (spIs isSignD)) (U_is_name : Used P w K mg CX0 1 "is_name" ["thing"] (spIs isNameD)) : FnOk P w K mg base CX0 3 f fd ["thing"] (spIs isPartD) := by
  obtain ⟨f_is_sign, fd_is_sign, G_is_sign, m_is_sign, k_is_sign, b_is_sign⟩ := U_is_sign.ok
  obtain ⟨f_is_name, fd_is_name, G_is_name, m_is_name, k_is_name, b_is_name⟩ := U_is_name.ok
  refine F.ok sc_is_part (fun vs H Q E h => ?_) (fun cdv A outer s H vs Q E hr h => ?_)
  · obtain ⟨x, d, rfl, _⟩ := h
    rfl
  · obtain ⟨x, d, rfl, den, sh, hp, q⟩ := h
    refine ⟨_, (pss_one (ps_ret (pe_or (pe_call (G_is_sign base) (hr.mono (by decide)) (by rfl) m_is_sign k_is_sign b_is_sign .nil pass0 (pa_cons (pv 0) pa_nil)) (pe_one (pe_call (G_is_name base) (hr.mono (by decide)) (by rfl) m_is_name k_is_name b_is_name .nil pass0 (pa_cons (pv 0) pa_nil)))))), ?_⟩
    refine ⟨_, rfl, x, d, rfl, den, sh, hp, _, rfl, ?_⟩
    exact or_read (g := isNameD d) (fun _ R hR => ⟨_, rfl, x, d, rfl, den, sh, hp, hR⟩) q
theorem sc_is_worth : FnScope ["thing"] ["thing"] (defScope s_is_worth) := ⟨rfl, rfl, rfl, by decide +kernel, rfl, by decide +kernel, by decide +kernel⟩
theorem ok_is_worth {f : Addr} {fd : FuncData} (F : Fun K "is_worth" "is_worth" s_is_worth f fd) (T : Txt K mg C) (U_is_whole : Used P w K mg CX0 1 "is_whole" ["thing"] (spIs isWholeD)) : FnOk P w K mg base CX0 2 f fd ["thing"] (spIs isWorthD) := by
  obtain ⟨f_is_whole, fd_is_whole, G_is_whole, m_is_whole, k_is_whole, b_is_whole⟩ := U_is_whole.ok
  refine F.ok sc_is_worth (fun vs H Q E h => ?_) (fun cdv A outer s H vs Q E hr h => ?_)
  · obtain ⟨x, d, rfl, _⟩ := h
    rfl
  · obtain ⟨x, d, rfl, den, sh, hp, q⟩ := h
    refine ⟨_, (pss_one (ps_ret (pe_and (pe_call (G_is_whole base) (hr.mono (by decide)) (by rfl) m_is_whole k_is_whole b_is_whole .nil pass0 (pa_cons (pv 0) pa_nil)) (pe_one (pe_chain op_le op_le pe_int (pv 0) (pe_op op_pow pe_int pe_int)))))), ?_⟩
    refine ⟨_, rfl, x, d, rfl, den, sh, hp, _, rfl, ?_⟩
    cases d with
    | int i =>
      have ex := den.to_int
      subst ex
      have ev : isWorthD (.int i) = (decide (0 ≤ i) && decide (i ≤ 10 ^ 60)) := rfl
      refine iteT ?_
      refine ⟨_, rfl, _, _, rfl, rfl, _, rfl, ?_⟩
      refine ite2 (fun h1 => ?_) fun h1 => ?_
      · refine ⟨_, _, rfl, rfl, ⟨by decide, by decide, by decide⟩, _, _, rfl, rfl, ?_⟩
        rw [ev, h1] at q
        exact q
      · have h1' : decide (0 ≤ i) = false := by
          cases hh : decide (0 ≤ i) with
          | false => rfl
          | true => exact absurd hh h1
        rw [ev, h1'] at q
        exact q
    | _ => exact iteF q
theorem sc_are_parts : FnScope ["thing"] ["thing"] (defScope s_are_parts) := ⟨rfl, rfl, rfl, by decide +kernel, rfl, by decide +kernel, by decide +kernel⟩
theorem ok_are_parts {f : Addr} {fd : FuncData} (F : Fun K "are_parts" "are_parts" s_are_parts f fd) (T : Txt K mg C) (U_is_part : Used P w K mg CX0 3 "is_part" ["thing"] (spIs isPartD)) : FnOk P w K mg base CX0 4 f fd ["thing"] (spIs arePartsD) := by
  obtain ⟨f_is_part, fd_is_part, G_is_part, m_is_part, k_is_part, b_is_part⟩ := U_is_part.ok
  obtain ⟨t_MOST_PARTS, g_MOST_PARTS⟩ := T.g_MOST_PARTS
  refine F.ok sc_are_parts (fun vs H Q E h => ?_) (fun cdv A outer s H vs Q E hr h => ?_)
  · obtain ⟨x, d, rfl, _⟩ := h
    rfl
  · obtain ⟨x, d, rfl, den, sh, hp, q⟩ := h
    refine ⟨_, (pss_cons (ps_if (pt_not (pt_val (pe_callB (call_isiK K rfl) (by rfl) T.z_isinstance PyProof.Rows.Boot.«isinstance» (pa_cons (pv 0) (pa_cons (pe_bltn (v := .ty "tuple") (by rfl) T.z_tuple PyProof.Rows.Boot.«tuple» rfl) pa_nil))))) (pss_one (ps_ret pe_bl)) pss_nil)
      (pss_one (ps_ret (pe_and (pe_cmpR op_le (pe_callB (call_len_seqK K rfl) (by rfl) T.z_len PyProof.Rows.Boot.«len» (pa_cons (pv 0) pa_nil)) (pe_glob (v := .int 6) (by rfl) g_MOST_PARTS ⟨_, rfl⟩) (nomark _)) (pe_one (pe_pure (pe_callB (call_allK K rfl rfl) (by rfl) T.z_all PyProof.Rows.Boot.«all» (pa_cons (pe_comp (N := ["part"]) (ρ := [none]) (cl := []) rfl (CompScope.plain rfl (by decide +kernel) (by decide +kernel) rfl (by simp)) (pi_tupK K rfl (pv 0)) (fun _ _ _ _ _ => (pg_name (i := 0) nd_P1b_part rfl (Or.inl rfl) (.inr rfl))) (fun _ _ _ _ _ => pts_nil) (fun _ _ _ _ _ => (pe_call (G_is_part base) (hr.mono (by decide)) (by rfl) m_is_part k_is_part b_is_part .nil pass0 (pa_cons (pv 0) pa_nil)))) pa_nil)))))))), ?_⟩
    refine ⟨_, rfl, _, _, _, _, _, rfl, den.ty, rfl, kit_tuple d, _, rfl, ?_⟩
    cases d with
    | tup ds =>
      obtain ⟨a, xs, rfl, ha, hds⟩ := den.to_tup
      have hl : xs.length = ds.length := hds.len
      refine iteF ?_
      refine ⟨_, rfl, a, xs, rfl, .inr (SqT.of ha), _, _, rfl, rfl, _, rfl, ?_⟩
      have shS : shortS ds = true := by unfold D.short at sh; exact sh
      have e1 : decide ((xs.length : Int) ≤ 6) = decide (ds.length ≤ 6) := by rw [hl]; congr 1; exact propext ⟨fun h => by omega, fun h => by omega⟩
      rw [e1]
      refine and_read (g := ds.all isPartD) (fun h1 R hR => ?_) q
      have h1' : ds.length ≤ 6 := of_decide_eq_true h1
      refine ⟨hp, _, rfl, a, rfl, ⟨xs, SqT.of ha⟩, fun l hln => ?_⟩
      refine comp_items (n := xs.length) 0 (fun k y _ => ∃ d, ds[k]? = some d ∧ y = .bl (isPartD d)) (gives_tup (SqT.of ha)) (fun _ _ _ _ _ h => h) hp hln Nat.zero_lt_one (line1000 (by omega)) (fun τ' => 0 < τ'.length) Nat.zero_lt_one (fun τ' v h => by rw [List.length_set]; exact h) ?_ ?_
      · intro τ' k y H' R _ hτ hit hk hs hp' hlne hR
        obtain ⟨d, hd, dn⟩ := hds.get hit
        exact ⟨_, hτ, y, d, rfl, dn.same hs, shortS_mem shS (List.mem_of_getElem? hd), hp', hR _ _ (Same.refl _) hp' ⟨d, hd, rfl⟩⟩
      · intro ys H' hy hP hs hp' hl'
        have e2 : ys = (ds.map isPartD).map V.bl := bls_of (by rw [hy, hl]) hP
        refine ⟨l, ds.map isPartD, rfl, .inl (.inl (by rw [hl', e2])), hs, ?_⟩
        rw [all_map_id]
        exact hR
    | _ => exact iteT q
theorem sc_is_rule : FnScope ["thing"] ["thing"] (defScope s_is_rule) := ⟨rfl, rfl, rfl, by decide +kernel, rfl, by decide +kernel, by decide +kernel⟩
theorem ok_is_rule {f : Addr} {fd : FuncData} (F : Fun K "is_rule" "is_rule" s_is_rule f fd) (T : Txt K mg C) (U_is_name : Used P w K mg CX0 1 "is_name" ["thing"] (spIs isNameD)) (U_are_parts : Used P w K mg CX0 4 "are_parts" ["thing"] (spIs arePartsD)) (U_is_worth : Used P w K mg CX0 2 "is_worth" ["thing"] (spIs isWorthD)) : FnOk P w K mg base CX0 5 f fd ["thing"] (spIs isRuleD) := by
  obtain ⟨f_is_name, fd_is_name, G_is_name, m_is_name, k_is_name, b_is_name⟩ := U_is_name.ok
  obtain ⟨f_are_parts, fd_are_parts, G_are_parts, m_are_parts, k_are_parts, b_are_parts⟩ := U_are_parts.ok
  obtain ⟨f_is_worth, fd_is_worth, G_is_worth, m_is_worth, k_is_worth, b_is_worth⟩ := U_is_worth.ok
  refine F.ok sc_is_rule (fun vs H Q E h => ?_) (fun cdv A outer s H vs Q E hr h => ?_)
  · obtain ⟨x, d, rfl, _⟩ := h
    rfl
  · obtain ⟨x, d, rfl, den, sh, hp, q⟩ := h
    refine ⟨_, (pss_cons (ps_if (PW.pt (pw_or (pt_not (pt_val (pe_callB (call_isiK K rfl) (by rfl) T.z_isinstance PyProof.Rows.Boot.«isinstance» (pa_cons (pv 0) (pa_cons (pe_bltn (v := .ty "tuple") (by rfl) T.z_tuple PyProof.Rows.Boot.«tuple» rfl) pa_nil))))) (pw_or1 (pt_cmpR op_ne (pe_callB (call_len_seqK K rfl) (by rfl) T.z_len PyProof.Rows.Boot.«len» (pa_cons (pv 0) pa_nil)) pe_int (nomark _))))) (pss_one (ps_ret pe_bl)) pss_nil)
      (pss_one (ps_ret (pe_and (pe_call (G_is_name base) (hr.mono (by decide)) (by rfl) m_is_name k_is_name b_is_name .nil pass0 (pa_cons (pe_ix (ix_tupK K rfl) (pv 0) pe_int (fun _ _ => rfl)) pa_nil)) (pe_and (pe_call (G_are_parts base) (hr.mono (by decide)) (by rfl) m_are_parts k_are_parts b_are_parts .nil pass0 (pa_cons (pe_ix (ix_tupK K rfl) (pv 0) pe_int (fun _ _ => rfl)) pa_nil)) (pe_one (pe_call (G_is_worth base) (hr.mono (by decide)) (by rfl) m_is_worth k_is_worth b_is_worth .nil pass0 (pa_cons (pe_ix (ix_tupK K rfl) (pv 0) pe_int (fun _ _ => rfl)) pa_nil)))))))), ?_⟩
    refine ⟨_, rfl, _, _, _, _, _, rfl, den.ty, rfl, kit_tuple d, _, rfl, ?_⟩
    cases d with
    | tup ds =>
      obtain ⟨a, xs, rfl, ha, hds⟩ := den.to_tup
      have hl : xs.length = ds.length := hds.len
      refine iteF ?_
      refine ⟨_, rfl, a, xs, rfl, .inr (SqT.of ha), rfl, _, rfl, ?_⟩
      have shS : shortS ds = true := by unfold D.short at sh; exact sh
      by_cases h3 : ds.length = 3
      · match ds, h3, xs, hl, hds, ha, q, shS with
        | [d0, d1, d2], _, [x0, x1, x2], _, hds, ha, q, shS =>
          have n0 := (hds.get (i := 0) (v := x0) rfl)
          have n1 := (hds.get (i := 1) (v := x1) rfl)
          have n2 := (hds.get (i := 2) (v := x2) rfl)
          obtain ⟨_, e0, n0⟩ := n0
          obtain ⟨_, e1, n1⟩ := n1
          obtain ⟨_, e2, n2⟩ := n2
          cases e0
          cases e1
          cases e2
          have sq : SqT K H a [x0, x1, x2] := SqT.of ha
          refine iteF ?_
          refine ⟨_, rfl, a, _, 0, x0, rfl, rfl, sq, rfl, x0, d0, rfl, n0, shortS_mem shS (by simp), hp, _, rfl, ?_⟩
          refine and_read (g := arePartsD d1 && isWorthD d2) (fun _ R hR => ?_) q
          refine ⟨_, rfl, a, _, 1, x1, rfl, rfl, sq, rfl, x1, d1, rfl, n1, shortS_mem shS (by simp), hp, _, rfl, ?_⟩
          exact and_read (g := isWorthD d2) (fun _ R hR => ⟨_, rfl, a, _, 2, x2, rfl, rfl, sq, rfl, x2, d2, rfl, n2, shortS_mem shS (by simp), hp, hR⟩) hR
      · have e1 : (!decide (V.int (xs.length : Int) = V.int 3)) = true := by
          rw [decide_eq_false]
          · rfl
          · intro e
            have := V.int.inj e
            omega
        rw [e1]
        refine iteT ?_
        have e2 : isRuleD (.tup ds) = false := by
          match ds, h3 with
          | [], _ => rfl
          | [_], _ => rfl
          | [_, _], _ => rfl
          | [_, _, _], h => exact absurd rfl h
          | _ :: _ :: _ :: _ :: _, _ => rfl
        rw [e2] at q
        exact q
    | _ => exact iteT q
end
end FR


set_option linter.all false
set_option maxRecDepth 100000
set_option maxHeartbeats 4000000
namespace FR
open PySem L2
theorem nd_P1c_rule : (["rule"] : List Str).Nodup := by decide +kernel
section
variable {P : Program} {w : World} {K : PySem.W.Frag} {mg : Str → Option Value} {base : Heap} {C : Adr}
theorem sc_is_grammar : FnScope ["thing"] ["thing"] (defScope s_is_grammar) := ⟨rfl, rfl, rfl, by decide +kernel, rfl, by decide +kernel, by decide +kernel⟩
theorem ok_is_grammar {f : Addr} {fd : FuncData} (F : Fun K "is_grammar" "is_grammar" s_is_grammar f fd) (T : Txt K mg C) (U_is_rule : Used P w K mg CX0 5 "is_rule" ["thing"] (spIs isRuleD)) : FnOk P w K mg base CX0 6 f fd ["thing"] (spIs isGramD) := by
  obtain ⟨f_is_rule, fd_is_rule, G_is_rule, m_is_rule, k_is_rule, b_is_rule⟩ := U_is_rule.ok
  obtain ⟨t_MOST_RULES, g_MOST_RULES⟩ := T.g_MOST_RULES
  refine F.ok sc_is_grammar (fun vs H Q E h => ?_) (fun cdv A outer s H vs Q E hr h => ?_)
  · obtain ⟨x, d, rfl, _⟩ := h
    rfl
  · obtain ⟨x, d, rfl, den, sh, hp, q⟩ := h
    refine ⟨_, (pss_cons (ps_if (pt_not (pt_val (pe_callB (call_isiK K rfl) (by rfl) T.z_isinstance PyProof.Rows.Boot.«isinstance» (pa_cons (pv 0) (pa_cons (pe_bltn (v := .ty "list") (by rfl) T.z_list PyProof.Rows.Boot.«list» rfl) pa_nil))))) (pss_one (ps_ret pe_bl)) pss_nil)
      (pss_one (ps_ret (pe_and (pe_cmpR op_le (pe_callB (call_len_seqK K rfl) (by rfl) T.z_len PyProof.Rows.Boot.«len» (pa_cons (pv 0) pa_nil)) (pe_glob (v := .int 60) (by rfl) g_MOST_RULES ⟨_, rfl⟩) (nomark _)) (pe_one (pe_pure (pe_callB (call_allK K rfl rfl) (by rfl) T.z_all PyProof.Rows.Boot.«all» (pa_cons (pe_comp (N := ["rule"]) (ρ := [none]) (cl := []) rfl (CompScope.plain rfl (by decide +kernel) (by decide +kernel) rfl (by simp)) (pi_listK K rfl (pv 0)) (fun _ _ _ _ _ => (pg_name (i := 0) nd_P1c_rule rfl (Or.inl rfl) (.inr rfl))) (fun _ _ _ _ _ => pts_nil) (fun _ _ _ _ _ => (pe_call (G_is_rule base) (hr.mono (by decide)) (by rfl) m_is_rule k_is_rule b_is_rule .nil pass0 (pa_cons (pv 0) pa_nil)))) pa_nil)))))))), ?_⟩
    refine ⟨_, rfl, _, _, _, _, _, rfl, den.ty, rfl, kit_list d, _, rfl, ?_⟩
    cases d with
    | lst ds =>
      obtain ⟨a, xs, rfl, ha, hds⟩ := den.to_lst
      have hl : xs.length = ds.length := hds.len
      have sq : SqL K H a xs := .inl ha
      refine iteF ?_
      refine ⟨_, rfl, a, xs, rfl, .inl sq, _, _, rfl, rfl, _, rfl, ?_⟩
      have shS : shortS ds = true := by unfold D.short at sh; exact sh
      have e1 : decide ((xs.length : Int) ≤ 60) = decide (ds.length ≤ 60) := by rw [hl]; congr 1; exact propext ⟨fun h => by omega, fun h => by omega⟩
      rw [e1]
      refine and_read (g := ds.all isRuleD) (fun h1 R hR => ?_) q
      have h1' : ds.length ≤ 60 := of_decide_eq_true h1
      refine ⟨hp, _, rfl, a, rfl, ⟨xs, sq⟩, fun l hln => ?_⟩
      refine comp_items (n := xs.length) 0 (fun k y _ => ∃ d, ds[k]? = some d ∧ y = .bl (isRuleD d)) (gives_list sq) (fun _ _ _ _ _ h => h) hp hln Nat.zero_lt_one (line1000 (by omega)) (fun τ' => 0 < τ'.length) Nat.zero_lt_one (fun τ' v h => by rw [List.length_set]; exact h) ?_ ?_
      · intro τ' k y H' R _ hτ hit hk hs hp' hlne hR
        obtain ⟨d, hd, dn⟩ := hds.get hit
        exact ⟨_, hτ, y, d, rfl, dn.same hs, shortS_mem shS (List.mem_of_getElem? hd), hp', hR _ _ (Same.refl _) hp' ⟨d, hd, rfl⟩⟩
      · intro ys H' hy hP hs hp' hl'
        have e2 : ys = (ds.map isRuleD).map V.bl := bls_of (by rw [hy, hl]) hP
        refine ⟨l, ds.map isRuleD, rfl, .inl (.inl (by rw [hl', e2])), hs, ?_⟩
        rw [all_map_id]
        exact hR
    | _ => exact iteT q
theorem sc_checked : FnScope ["thing"] ["thing"] (defScope s_checked) := ⟨rfl, rfl, rfl, by decide +kernel, rfl, by decide +kernel, by decide +kernel⟩
theorem ok_checked {f : Addr} {fd : FuncData} (F : Fun K "checked" "checked" s_checked f fd) (T : Txt K mg C) (U_is_grammar : Used P w K mg CX0 6 "is_grammar" ["thing"] (spIs isGramD)) : FnOk P w K mg base (CXo P w) 7 f fd ["thing"] (spChecked C.NoGrammar) := by
  obtain ⟨f_is_grammar, fd_is_grammar, G_is_grammar, m_is_grammar, k_is_grammar, b_is_grammar⟩ := U_is_grammar.ok
  refine F.okX sc_checked (fun vs H Q E h => ?_) (fun cdv A outer s H vs Q E hr h => ?_)
  · obtain ⟨x, d, rfl, _⟩ := h
    rfl
  · obtain ⟨x, d, rfl, den, sh, hp, q1, q2⟩ := h
    refine ⟨_, (pss_cons (ps_if (pt_not (pt_val (pe_call (G_is_grammar base) (hr.mono (by decide)) (by rfl) m_is_grammar k_is_grammar b_is_grammar .nil pass0 (pa_cons (pv 0) pa_nil)))) (pss_one (ps_raise sink_def T.x_NoGrammar rfl (by rfl) T.n_NoGrammar (pa_cons pe_str pa_nil))) pss_nil)
      (pss_one (ps_ret (pe_callTy (call_list_ofK K rfl) (by rfl) T.z_list PyProof.Rows.Boot.«list» (pa_cons (pv 0) pa_nil))))), ?_⟩
    refine ⟨_, rfl, x, d, rfl, den, sh, hp, _, rfl, ?_⟩
    refine ite2 (fun hi => ?_) fun hi => ?_
    · exact ⟨line1000 (by decide), q2 (bool_false hi)⟩
    · have e := bool_true hi
      obtain ⟨g, rfl, hg⟩ := gram_of e
      obtain ⟨a, xs, rfl, ha, hds⟩ := den_gram den
      exact ⟨_, rfl, a, xs, rfl, .inl (.inl ha), fun l hl => q1 e l xs _ rfl hds hl⟩
end
end FR


set_option linter.all false
set_option maxRecDepth 100000
set_option maxHeartbeats 4000000
namespace FR
open PySem L2
abbrev s_Reading___init__ : Stmt := inClass (top 32) 0
abbrev s_Reading_next_number : Stmt := inClass (top 32) 1
abbrev s_Reading_take_rule : Stmt := inClass (top 32) 2
abbrev s_Reading_take_all : Stmt := inClass (top 32) 3
abbrev s_read_row : Stmt := top 33
abbrev s_text_of : Stmt := top 34
abbrev s_worth_of : Stmt := top 35
abbrev s_spans_of : Stmt := top 36

section
variable {P : Program} {w : World} {K : PySem.W.Frag} {mg : Str → Option Value} {base : Heap} {C : Adr}
theorem sc_Reading___init__ : FnScope ["self", "rules", "row"] ["self", "rules", "row"] (defScope s_Reading___init__) := ⟨rfl, rfl, rfl, by decide +kernel, rfl, by decide +kernel, by decide +kernel⟩
theorem ok_Reading___init__ {f : Addr} {fd : FuncData} (F : Fun K "__init__" "Reading.__init__" s_Reading___init__ f fd) (T : Txt K mg C) : FnOk P w K mg base CX0 1 f fd ["self", "rules", "row"] (spInit C.Reading) := by
  refine F.ok sc_Reading___init__ (fun vs H Q E h => ?_) (fun cdv A outer s H vs Q E hr h => ?_)
  · obtain ⟨H0, x, l, ro, dx, rfl, _⟩ := h
    rfl
  · obtain ⟨H0, x, l, ro, dx, rfl, hx, hx0, s0, hp, q⟩ := h
    refine ⟨_, (pss_cons (ps_fldK K rfl (pv 0) (pv 1) rfl)
      (pss_cons (ps_fldK K rfl (pv 0) (pv 2) rfl)
      (pss_cons (ps_fldK K rfl (pv 0) (pe_lst pa_nil) rfl)
      (pss_cons (ps_fldK K rfl (pv 0) (pe_lst pa_nil) rfl)
      (pss_one (ps_fldK K rfl (pv 0) (pe_lst pa_nil) rfl)))))), ?_⟩
    refine ⟨_, rfl, _, rfl, x, C.Reading, dx, _, rfl, hx, T.cl_Reading, T.na_Reading_rules, (show 0 < 1000 by decide), ?_⟩
    rw [put_R1]
    have s1 : Same H0 (upd H x (.ins C.Reading dx (fR1 l))) := s0.put hx0
    have p1 : Plain (upd H x (.ins C.Reading dx (fR1 l))) := hp.upd rfl
    have x1 : upd H x (.ins C.Reading dx (fR1 l)) x = some (.ins C.Reading dx (fR1 l)) := upd_same
    revert s1 p1 x1
    generalize upd H x (.ins C.Reading dx (fR1 l)) = H1
    intro s1 p1 x1
    refine ⟨_, rfl, _, rfl, x, C.Reading, dx, _, rfl, x1, T.cl_Reading, T.na_Reading_row, (show 1 < 1000 by decide), ?_⟩
    rw [put_R2]
    have s2 : Same H0 (upd H1 x (.ins C.Reading dx (fR2 l ro))) := s1.put hx0
    have p2 : Plain (upd H1 x (.ins C.Reading dx (fR2 l ro))) := p1.upd rfl
    have x2 : upd H1 x (.ins C.Reading dx (fR2 l ro)) x = some (.ins C.Reading dx (fR2 l ro)) := upd_same
    revert s2 p2 x2
    generalize upd H1 x (.ins C.Reading dx (fR2 l ro)) = H2
    intro s2 p2 x2
    refine ⟨Nat.zero_le _, fun a1 h1 => ?_⟩
    have n1 : a1 ≠ x := fun e => by rw [e, x2] at h1; cases h1
    have z1 := s2.free h1
    have s3 := s2.trans (Same.upd (o := .lst []) h1)
    have p3 : Plain (upd H2 a1 (.lst [])) := p2.upd rfl
    have x3 : upd H2 a1 (.lst []) x = some (.ins C.Reading dx (fR2 l ro)) := by rw [upd_ne n1.symm]; exact x2
    have w3 : upd H2 a1 (.lst []) a1 = some (.lst []) := upd_same
    revert s3 p3 x3 w3
    generalize upd H2 a1 (.lst []) = H3
    intro s3 p3 x3 w3
    refine ⟨_, rfl, x, C.Reading, dx, _, rfl, x3, T.cl_Reading, T.na_Reading_signs, (show 2 < 1000 by decide), ?_⟩
    rw [put_R3]
    have s4 : Same H0 (upd H3 x (.ins C.Reading dx (fR3 l ro a1))) := s3.put hx0
    have p4 : Plain (upd H3 x (.ins C.Reading dx (fR3 l ro a1))) := p3.upd rfl
    have x4 : upd H3 x (.ins C.Reading dx (fR3 l ro a1)) x = some (.ins C.Reading dx (fR3 l ro a1)) := upd_same
    have w4 : upd H3 x (.ins C.Reading dx (fR3 l ro a1)) a1 = some (.lst []) := by rw [upd_ne n1]; exact w3
    revert s4 p4 x4 w4
    generalize upd H3 x (.ins C.Reading dx (fR3 l ro a1)) = H4
    intro s4 p4 x4 w4
    refine ⟨Nat.zero_le _, fun a2 h2 => ?_⟩
    have n2 : a2 ≠ x := fun e => by rw [e, x4] at h2; cases h2
    have n12 : a1 ≠ a2 := fun e => by rw [← e, w4] at h2; cases h2
    have z2 := s4.free h2
    have s5 := s4.trans (Same.upd (o := .lst []) h2)
    have p5 : Plain (upd H4 a2 (.lst [])) := p4.upd rfl
    have x5 : upd H4 a2 (.lst []) x = some (.ins C.Reading dx (fR3 l ro a1)) := by rw [upd_ne n2.symm]; exact x4
    have w5 : upd H4 a2 (.lst []) a1 = some (.lst []) := by rw [upd_ne n12]; exact w4
    have v5 : upd H4 a2 (.lst []) a2 = some (.lst []) := upd_same
    revert s5 p5 x5 w5 v5
    generalize upd H4 a2 (.lst []) = H5
    intro s5 p5 x5 w5 v5
    refine ⟨_, rfl, x, C.Reading, dx, _, rfl, x5, T.cl_Reading, T.na_Reading_begins, (show 3 < 1000 by decide), ?_⟩
    rw [put_R4]
    have s6 : Same H0 (upd H5 x (.ins C.Reading dx (fR4 l ro a1 a2))) := s5.put hx0
    have p6 : Plain (upd H5 x (.ins C.Reading dx (fR4 l ro a1 a2))) := p5.upd rfl
    have x6 : upd H5 x (.ins C.Reading dx (fR4 l ro a1 a2)) x = some (.ins C.Reading dx (fR4 l ro a1 a2)) := upd_same
    have w6 : upd H5 x (.ins C.Reading dx (fR4 l ro a1 a2)) a1 = some (.lst []) := by rw [upd_ne n1]; exact w5
    have v6 : upd H5 x (.ins C.Reading dx (fR4 l ro a1 a2)) a2 = some (.lst []) := by rw [upd_ne n2]; exact v5
    revert s6 p6 x6 w6 v6
    generalize upd H5 x (.ins C.Reading dx (fR4 l ro a1 a2)) = H6
    intro s6 p6 x6 w6 v6
    refine ⟨Nat.zero_le _, fun a3 h3 => ?_⟩
    have n3 : a3 ≠ x := fun e => by rw [e, x6] at h3; cases h3
    have n13 : a1 ≠ a3 := fun e => by rw [← e, w6] at h3; cases h3
    have n23 : a2 ≠ a3 := fun e => by rw [← e, v6] at h3; cases h3
    have x7 : upd H6 a3 (.lst []) x = some (.ins C.Reading dx (fR4 l ro a1 a2)) := by rw [upd_ne n3.symm]; exact x6
    refine ⟨_, rfl, x, C.Reading, dx, _, rfl, x7, T.cl_Reading, T.na_Reading_stops, (show 4 < 1000 by decide), ?_⟩
    rw [put_R5]
    refine q a1 a2 a3 _ ((s6.trans (Same.upd (o := .lst []) h3)).put hx0) ((p6.upd rfl).upd rfl) upd_same z1 z2 (s6.free h3) n12 n13 n23 n1 n2 n3 ?_ ?_ ?_
    · rw [upd_ne n1, upd_ne n13]
      exact w6
    · rw [upd_ne n2, upd_ne n23]
      exact v6
    · rw [upd_ne n3]
      exact upd_same
theorem sc_Reading_next_number : FnScope ["self", "head", "used", "number"] ["self", "head"] (defScope s_Reading_next_number) := ⟨rfl, rfl, rfl, by decide +kernel, rfl, by decide +kernel, by decide +kernel⟩
theorem ok_Reading_next_number {f : Addr} {fd : FuncData} (F : Fun K "next_number" "Reading.next_number" s_Reading_next_number f fd) (T : Txt K mg C) (U_is_whole : Used P w K mg CX0 1 "is_whole" ["thing"] (spIs isWholeD)) : FnOk P w K mg base (CXo P w) 2 f fd ["self", "head"] (spNext C.Reading C.NoRow) := by
  obtain ⟨f_is_whole, fd_is_whole, G_is_whole, m_is_whole, k_is_whole, b_is_whole⟩ := U_is_whole.ok
  refine F.okX sc_Reading_next_number (fun vs H Q E h => ?_) (fun cdv A outer s H vs Q E hr h => ?_)
  · obtain ⟨H0, x, l, ro, a1, a2, a3, xs, ys, g, ds, rd, z, rfl, _⟩ := h
    rfl
  · obtain ⟨H0, x, l, ro, a1, a2, a3, xs, ys, g, ds, rd, z, rfl, st, en, hn, q, ex⟩ := h
    refine ⟨_, (pss_cons (ps_set (i := 2) sc_Reading_next_number.nd rfl (Or.inl rfl) (pe_callB (call_len_seqK K rfl) (by rfl) T.z_len PyProof.Rows.Boot.«len» (pa_cons (pe_fldK K rfl (pv 0) rfl) pa_nil)))
      (pss_cons (ps_if (pt_cmpR op_eq (pv 2) (pe_callB (call_len_seqK K rfl) (by rfl) T.z_len PyProof.Rows.Boot.«len» (pa_cons (pe_fldK K rfl (pv 0) rfl) pa_nil)) (nomark _)) (pss_one (ps_raise sink_def T.x_NoRow rfl (by rfl) T.n_NoRow (pa_cons pe_str pa_nil))) pss_nil)
      (pss_cons (ps_set (i := 3) sc_Reading_next_number.nd rfl (Or.inl rfl) (pe_ix (ix_listK K rfl) (pe_fldK K rfl (pv 0) rfl) (pv 2) (fun _ _ => rfl)))
      (pss_cons (ps_if (PW.pt (pw_or (pt_not (pt_val (pe_call (G_is_whole base) (hr.mono (by decide)) (by rfl) m_is_whole k_is_whole b_is_whole .nil pass0 (pa_cons (pv 3) pa_nil)))) (pw_or1 (pt_not (pt_chain op_le op_lt pe_int (pv 3) (pe_callB (call_len_seqK K rfl) (by rfl) T.z_len PyProof.Rows.Boot.«len» (pa_cons (pe_fldK K rfl (pv 0) rfl) pa_nil))))))) (pss_one (ps_raise sink_def T.x_NoRow rfl (by rfl) T.n_NoRow (pa_cons pe_str pa_nil))) pss_nil)
      (pss_cons (ps_if (pt_cmpR op_ne (pe_ix (ix_tupK K rfl) (pe_ix (ix_listK K rfl) (pe_fldK K rfl (pv 0) rfl) (pv 3) (fun _ _ => rfl)) pe_int (fun _ _ => rfl)) (pv 1) (nomark _)) (pss_one (ps_raise sink_def T.x_NoRow rfl (by rfl) T.n_NoRow (pa_cons pe_str pa_nil))) pss_nil)
      (pss_one (ps_ret (pv 3)))))))), ?_⟩
    obtain ⟨dx, hx⟩ := st.x_
    have hx := st.sm _ _ hx
    have en' := en.same st.sm
    have hyl : ys.length = ds.length := en.hys.len
    have hxl : xs.length = g.length := by rw [en.hds.len, List.length_map]
    refine ⟨_, rfl, x, C.Reading, dx, _, _, rfl, hx, T.cl_Reading, T.na_Reading_begins, rfl, a2, _, rfl, .inl (SqL.of st.e2), ?_⟩
    refine ⟨_, rfl, _, rfl, x, C.Reading, dx, _, _, rfl, hx, T.cl_Reading, T.na_Reading_row, rfl, ro, ys, rfl, .inl (.inl en'.hro), rfl, _, rfl, ?_⟩
    rw [List.length_map, hyl]
    by_cases e : rd.bg.length = ds.length
    · rw [decide_eq_true (by rw [e])]
      refine iteT ⟨line1000 (by decide), ex ?_⟩
      unfold nextR
      rw [List.getElem?_eq_none_iff.mpr (by omega)]
    rw [decide_eq_false (fun h => e (by injection h with h; omega))]
    have hlt : rd.bg.length < ds.length := by omega
    obtain ⟨d, hd⟩ : ∃ d, ds[rd.bg.length]? = some d := ⟨_, List.getElem?_eq_getElem hlt⟩
    obtain ⟨y, hy, den⟩ := en'.hys.getD hd
    refine iteF ⟨_, rfl, x, C.Reading, dx, _, _, rfl, hx, T.cl_Reading, T.na_Reading_row, rfl, _, rfl, ro, _, _, _, rfl, rfl, .inl en'.hro, atI_nat hy, ?_⟩
    refine ⟨_, rfl, y, d, rfl, den, en.hsh d (List.mem_of_getElem? hd), st.pl, _, rfl, ?_⟩
    cases d with
    | int i =>
      have ey := den.to_int
      subst ey
      refine iteF ⟨_, rfl, _, _, rfl, rfl, _, rfl, ?_⟩
      by_cases h0 : 0 ≤ i
      case neg =>
        rw [decide_eq_false h0]
        refine iteF ⟨_, rfl, iteT ⟨line1000 (by decide), ex ?_⟩⟩
        unfold nextR
        rw [hd]
        exact if_neg h0
      rw [decide_eq_true h0]
      refine iteT ⟨_, rfl, x, C.Reading, dx, _, _, rfl, hx, T.cl_Reading, T.na_Reading_rules, rfl, l, xs, rfl, .inl (SqL.of en'.hl), _, _, rfl, rfl, _, rfl, ?_⟩
      rw [hxl]
      obtain ⟨k, rfl⟩ : ∃ k : Nat, i = (k : Int) := ⟨i.toNat, by omega⟩
      by_cases h1 : k < g.length
      case neg =>
        rw [decide_eq_false (by omega)]
        refine iteT ⟨line1000 (by decide), ex ?_⟩
        unfold nextR
        rw [hd]
        have : g[(k : Int).toNat]? = none := List.getElem?_eq_none_iff.mpr (by omega)
        simp only [this]
        exact ite_self _
      rw [decide_eq_true (by omega)]
      obtain ⟨r, er⟩ : ∃ r, g[k]? = some r := ⟨_, List.getElem?_eq_getElem h1⟩
      obtain ⟨t, pp, ax, ht, hpp⟩ := rule_num en'.hds er
      refine iteF ⟨_, rfl, x, C.Reading, dx, _, _, rfl, hx, T.cl_Reading, T.na_Reading_rules, rfl, _, rfl, l, _, _, _, rfl, rfl, SqL.of en'.hl, ax, t, _, 0, _, rfl, rfl, SqT.of ht, rfl, _, rfl, rfl, _, rfl, ?_⟩
      rw [decS]
      have en2 : nextR g ds rd.bg.length z = if r.1 = z then some (k, r) else none := by
        unfold nextR
        rw [hd]
        simp only [h0, if_true, Int.toNat_natCast, er]
      by_cases hz : r.1 = z
      · rw [decide_eq_true hz]
        exact iteF ⟨_, rfl, q k r (by rw [en2, if_pos hz])⟩
      · rw [decide_eq_false hz]
        exact iteT ⟨line1000 (by decide), ex (by rw [en2, if_neg hz])⟩
    | _ => exact iteT ⟨line1000 (by decide), ex (by unfold nextR; rw [hd])⟩
theorem sc_Reading_take_rule : FnScope ["self", "head", "waiting", "number"] ["self", "head", "waiting"] (defScope s_Reading_take_rule) := ⟨rfl, rfl, rfl, by decide +kernel, rfl, by decide +kernel, by decide +kernel⟩
theorem ok_Reading_take_rule {f : Addr} {fd : FuncData} (F : Fun K "take_rule" "Reading.take_rule" s_Reading_take_rule f fd) (T : Txt K mg C) (U_Reading_next_number : UsedM P w K mg (CXo P w) 2 C.Reading "next_number" ["self", "head"] (spNext C.Reading C.NoRow)) : FnOk P w K mg base (CXo P w) 3 f fd ["self", "head", "waiting"] (spTake C.Reading C.NoRow) := by
  obtain ⟨f_Reading_next_number, fd_Reading_next_number, G_Reading_next_number, me_Reading_next_number, b_Reading_next_number⟩ := U_Reading_next_number.ok
  refine F.okX sc_Reading_take_rule (fun vs H Q E h => ?_) (fun cdv A outer s H vs Q E hr h => ?_)
  · obtain ⟨H0, x, l, ro, a1, a2, a3, aw, xs, ys, ws, g, ds, rd, z, rfl, _⟩ := h
    rfl
  · obtain ⟨H0, x, l, ro, a1, a2, a3, aw, xs, ys, ws, g, ds, rd, z, rfl, st, en, hn, hst, hw, hw0, w1, w2, w3, wl, q, ex⟩ := h
    refine ⟨_, (pss_cons (ps_set (i := 3) sc_Reading_take_rule.nd rfl (Or.inl rfl) (pe_meth (pv 0) T.cl_Reading me_Reading_next_number (G_Reading_next_number base) (hr.mono (by decide)) b_Reading_next_number .nil sink_def.on (pa_cons (pv 1) pa_nil)))
      (pss_cons (ps_expr (pe_bmK K rfl PySem.F.plainAttrs_list PySem.F.slot_list_append PySem.F.type_list_append mt_append (pv 2) (pa_cons (pe_callB (call_len_seqK K rfl) (by rfl) T.z_len PyProof.Rows.Boot.«len» (pa_cons (pe_fldK K rfl (pv 0) rfl) pa_nil)) pa_nil)))
      (pss_cons (ps_expr (pe_bmK K rfl PySem.F.plainAttrs_list PySem.F.slot_list_extend PySem.F.type_list_extend mt_extend (pv 2) (pa_cons (pe_list_revT K rfl rfl rfl T.z_list rfl T.z_reversed (pa_cons (pe_ix (ix_tupK K rfl) (pe_ix (ix_listK K rfl) (pe_fldK K rfl (pv 0) rfl) (pv 3) (fun _ _ => rfl)) pe_int (fun _ _ => rfl)) pa_nil)) pa_nil)))
      (pss_cons (ps_expr (pe_bmK K rfl PySem.F.plainAttrs_list PySem.F.slot_list_append PySem.F.type_list_append mt_append (pe_fldK K rfl (pv 0) rfl) (pa_cons (pe_callB (call_len_seqK K rfl) (by rfl) T.z_len PyProof.Rows.Boot.«len» (pa_cons (pe_fldK K rfl (pv 0) rfl) pa_nil)) pa_nil)))
      (pss_one (ps_expr (pe_bmK K rfl PySem.F.plainAttrs_list PySem.F.slot_list_append PySem.F.type_list_append mt_append (pe_fldK K rfl (pv 0) rfl) (pa_cons (pe_callB (call_len_seqK K rfl) (by rfl) T.z_len PyProof.Rows.Boot.«len» (pa_cons (pe_fldK K rfl (pv 0) rfl) pa_nil)) pa_nil)))))))), ?_⟩
    obtain ⟨dx, hx⟩ := st.x_
    have hlen := en.hlen
    refine ⟨_, rfl, x, dx, _, rfl, st.sm _ _ hx, rfl, _, rfl, H0, x, l, ro, a1, a2, a3, xs, ys, g, ds, rd, z, rfl, st, en, hn, fun k r e => ?_, fun e => ex e⟩
    obtain ⟨e1, er, ez⟩ := nextR_some e
    have hbl : rd.bg.length < ds.length := (List.getElem?_eq_some_iff.mp e1).1
    have hr6 := (rule_parts (rule_okB en.hg er)).1
    refine ⟨_, rfl, .inl ⟨rfl, _, SqL.of hw⟩, _, rfl, x, C.Reading, dx, _, _, rfl, st.sm _ _ hx, T.cl_Reading, T.na_Reading_begins, rfl, a2, _, rfl, .inl (SqL.of st.e2), aw, ws, _, rfl, rfl, hw, by rw [sizeLine_eq]; omega, ?_⟩
    rw [List.length_map]
    have st1 : RdSt C.Reading H0 (upd H aw (.lst (ws ++ [V.int (rd.bg.length : Nat)]))) x l ro a1 a2 a3 rd := st.put hw0 w1 w2 w3 rfl
    have hw1 : upd H aw (.lst (ws ++ [V.int (rd.bg.length : Nat)])) aw = some (.lst (ws ++ [V.int (rd.bg.length : Nat)])) := upd_same
    revert st1 hw1
    generalize upd H aw (.lst (ws ++ [V.int (rd.bg.length : Nat)])) = H1
    intro st1 hw1
    have en1 := en.same st1.sm
    obtain ⟨t, pp, ax, ht, hpp⟩ := rule_num en1.hds er
    refine ⟨_, rfl, .inl ⟨rfl, _, SqL.of hw1⟩, _, rfl, x, C.Reading, dx, _, _, rfl, st1.sm _ _ hx, T.cl_Reading, T.na_Reading_rules, rfl, _, rfl, l, _, _, _, rfl, rfl, SqL.of en1.hl, ax, t, _, 1, _, rfl, rfl, SqT.of ht, rfl, pp, _, rfl, SqT.of hpp, fun lr hlr => ?_⟩
    rw [← List.map_reverse]
    have nlr : aw ≠ lr := fun e => by rw [← e, hw1] at hlr; cases hlr
    have st2 : RdSt C.Reading H0 (upd H1 lr (.lst (r.2.1.reverse.map V.str))) x l ro a1 a2 a3 rd := st1.new hlr rfl
    have hw2 : upd H1 lr (.lst (r.2.1.reverse.map V.str)) aw = some (.lst (ws ++ [V.int (rd.bg.length : Nat)])) := by rw [upd_ne nlr]; exact hw1
    have hr2 : upd H1 lr (.lst (r.2.1.reverse.map V.str)) lr = some (.lst (r.2.1.reverse.map V.str)) := upd_same
    revert st2 hw2 hr2
    generalize upd H1 lr (.lst (r.2.1.reverse.map V.str)) = H2
    intro st2 hw2 hr2
    refine ⟨aw, lr, _, _, rfl, rfl, hw2, hr2, by rw [List.length_append, List.length_map, List.length_reverse, sizeLine_eq]; show ws.length + 1 + _ ≤ _; omega, ?_⟩
    have st3 : RdSt C.Reading H0 (upd H2 aw (.lst (ws ++ [V.int (rd.bg.length : Nat)] ++ r.2.1.reverse.map V.str))) x l ro a1 a2 a3 rd := st2.put hw0 w1 w2 w3 rfl
    have hw3 : upd H2 aw (.lst (ws ++ [V.int (rd.bg.length : Nat)] ++ r.2.1.reverse.map V.str)) aw = some (.lst (ws ++ [V.int (rd.bg.length : Nat)] ++ r.2.1.reverse.map V.str)) := upd_same
    revert st3 hw3
    generalize upd H2 aw (.lst (ws ++ [V.int (rd.bg.length : Nat)] ++ r.2.1.reverse.map V.str)) = H3
    intro st3 hw3
    refine ⟨_, rfl, x, C.Reading, dx, _, _, rfl, st3.sm _ _ hx, T.cl_Reading, T.na_Reading_begins, rfl, .inl ⟨rfl, _, SqL.of st3.e2⟩, _, rfl, x, C.Reading, dx, _, _, rfl, st3.sm _ _ hx, T.cl_Reading, T.na_Reading_signs, rfl, a1, _, rfl, .inl (SqL.of st3.e1), a2, _, _, rfl, rfl, st3.e2, by rw [List.length_map, sizeLine_eq]; omega, ?_⟩
    rw [List.length_map]
    have eb : rd.bg.map nV ++ [V.int (rd.sg.length : Nat)] = (rd.bg ++ [rd.sg.length]).map nV := by rw [List.map_append]; rfl
    rw [eb]
    have st4 := st3.set2 (rd.bg ++ [rd.sg.length])
    have hw4 : upd H3 a2 (.lst ((rd.bg ++ [rd.sg.length]).map nV)) aw = some (.lst (ws ++ [V.int (rd.bg.length : Nat)] ++ r.2.1.reverse.map V.str)) := by rw [upd_ne w2]; exact hw3
    revert st4 hw4
    generalize upd H3 a2 (.lst ((rd.bg ++ [rd.sg.length]).map nV)) = H4
    intro st4 hw4
    refine ⟨_, rfl, x, C.Reading, dx, _, _, rfl, st4.sm _ _ hx, T.cl_Reading, T.na_Reading_stops, rfl, .inl ⟨rfl, _, SqL.of st4.e3⟩, _, rfl, x, C.Reading, dx, _, _, rfl, st4.sm _ _ hx, T.cl_Reading, T.na_Reading_signs, rfl, a1, _, rfl, .inl (SqL.of st4.e1), a3, _, _, rfl, rfl, st4.e3, by rw [List.length_map, sizeLine_eq]; show rd.st.length < _; omega, ?_⟩
    rw [List.length_map]
    have eb : rd.st.map nV ++ [V.int (rd.sg.length : Nat)] = (rd.st ++ [rd.sg.length]).map nV := by rw [List.map_append]; rfl
    show Q .non (upd H4 a3 (.lst (rd.st.map nV ++ [V.int (rd.sg.length : Nat)])))
    rw [eb]
    exact q k r _ e (st4.set3 (rd.st ++ [rd.sg.length])) (by rw [upd_ne w3]; exact hw4)
theorem sc_Reading_take_all : FnScope ["self", "waiting", "first"] ["self"] (defScope s_Reading_take_all) := ⟨rfl, rfl, rfl, by decide +kernel, rfl, by decide +kernel, by decide +kernel⟩
theorem ok_Reading_take_all {f : Addr} {fd : FuncData} (F : Fun K "take_all" "Reading.take_all" s_Reading_take_all f fd) (T : Txt K mg C) (U_is_whole : Used P w K mg CX0 1 "is_whole" ["thing"] (spIs isWholeD)) (U_Reading_take_rule : UsedM P w K mg (CXo P w) 3 C.Reading "take_rule" ["self", "head", "waiting"] (spTake C.Reading C.NoRow)) : FnOk P w K mg base (CXo P w) 4 f fd ["self"] (spAll C.Reading C.NoRow) := by
  obtain ⟨f_is_whole, fd_is_whole, G_is_whole, m_is_whole, k_is_whole, b_is_whole⟩ := U_is_whole.ok
  obtain ⟨f_Reading_take_rule, fd_Reading_take_rule, G_Reading_take_rule, me_Reading_take_rule, b_Reading_take_rule⟩ := U_Reading_take_rule.ok
  refine F.okX sc_Reading_take_all (fun vs H Q E h => ?_) (fun cdv A outer s H vs Q E hr h => ?_)
  · obtain ⟨H0, x, l, ro, a1, a2, a3, xs, ys, g, ds, rfl, _⟩ := h
    rfl
  · obtain ⟨H0, x, l, ro, a1, a2, a3, xs, ys, g, ds, rfl, st, en, hne, q, ex⟩ := h
    refine ⟨_, (pss_cons (ps_set (i := 1) sc_Reading_take_all.nd rfl (Or.inl rfl) (pe_lst (pa_cons (pe_ix (ix_tupK K rfl) (pe_ix (ix_listK K rfl) (pe_fldK K rfl (pv 0) rfl) pe_int (fun _ _ => rfl)) pe_int (fun _ _ => rfl)) pa_nil)))
      (pss_cons (ps_while PassesOwn.leaving (pt_truthK K rfl (pv 1) (fun _ => rfl)) (pss_cons (ps_set (i := 2) sc_Reading_take_all.nd rfl (Or.inl rfl) (pe_bm0K K rfl PySem.F.plainAttrs_list PySem.F.slot_list_pop PySem.F.type_list_pop mt_pop (pv 1)))
      (pss_one (ps_if (pt_val (pe_call (G_is_whole base) (hr.mono (by decide)) (by rfl) m_is_whole k_is_whole b_is_whole .nil pass0 (pa_cons (pv 2) pa_nil))) (pss_one (ps_asg (pe_callB (call_len_seqK K rfl) (by rfl) T.z_len PyProof.Rows.Boot.«len» (pa_cons (pe_fldK K rfl (pv 0) rfl) pa_nil)) (pg_sub (pe_fldK K rfl (pv 0) rfl) (pv 2) set_list))) (pss_one (ps_if (pt_val (pe_bmK K rfl PySem.F.plainAttrs_str PySem.F.slot_str_startswith PySem.F.type_str_startswith mt_str_startswith (pv 2) (pa_cons pe_str pa_nil))) (pss_one (ps_expr (pe_bmK K rfl PySem.F.plainAttrs_list PySem.F.slot_list_append PySem.F.type_list_append mt_append (pe_fldK K rfl (pv 0) rfl) (pa_cons (pe_ix ix_str (pv 2) pe_int (fun _ _ => rfl)) pa_nil)))) (pss_one (ps_expr (pe_meth (pv 0) T.cl_Reading me_Reading_take_rule (G_Reading_take_rule base) (hr.mono (by decide)) b_Reading_take_rule .nil sink_def.on (pa_cons (pv 2) (pa_cons (pv 1) pa_nil)))))))))))
      (pss_one (ps_if (pt_cmpR op_lt (pe_callB (call_len_seqK K rfl) (by rfl) T.z_len PyProof.Rows.Boot.«len» (pa_cons (pe_fldK K rfl (pv 0) rfl) pa_nil)) (pe_callB (call_len_seqK K rfl) (by rfl) T.z_len PyProof.Rows.Boot.«len» (pa_cons (pe_fldK K rfl (pv 0) rfl) pa_nil)) (nomark _)) (pss_one (ps_raise sink_def T.x_NoRow rfl (by rfl) T.n_NoRow (pa_cons pe_str pa_nil))) pss_nil)))), ?_⟩
    obtain ⟨dx, hx⟩ := st.x_
    obtain ⟨r0, rest, eg⟩ : ∃ r0 rest, g = r0 :: rest := by
      cases g with
      | nil => exact absurd rfl hne
      | cons a b => exact ⟨a, b, rfl⟩
    have er0 : g[0]? = some r0 := by rw [eg]; rfl
    have en1 := en.same st.sm
    obtain ⟨t0, p0, ax0, ht0, hp0⟩ := rule_num en1.hds er0
    have hlen := en.hlen
    refine ⟨_, rfl, x, C.Reading, dx, _, _, rfl, st.sm _ _ hx, T.cl_Reading, T.na_Reading_rules, rfl, l, _, 0, _, rfl, rfl, SqL.of en1.hl, ax0, t0, _, 0, _, rfl, rfl, SqT.of ht0, rfl, line1000 (show 1 ≤ 1000 by decide), fun aw haw => ?_⟩
    have w1 : aw ≠ a1 := fun e => by rw [e, st.e1] at haw; cases haw
    have w2 : aw ≠ a2 := fun e => by rw [e, st.e2] at haw; cases haw
    have w3 : aw ≠ a3 := fun e => by rw [e, st.e3] at haw; cases haw
    have hw0 := st.sm.free haw
    have st1 := st.new (o := .lst [.str r0.1]) haw rfl
    have hw1 : upd H aw (.lst [.str r0.1]) aw = some (.lst [.str r0.1]) := upd_same
    revert st1 hw1
    generalize upd H aw (.lst [.str r0.1]) = H1
    intro st1 hw1
    have hf0 : fin g [.inl r0.1] ⟨[], [], []⟩ (ds.drop 0) = fin g (startW g) ⟨[], [], []⟩ ds := by rw [eg]; rfl
    refine ⟨fun μ σ H2 => ∃ (ws : List Wait) (rd : Rdg) (v2 : Option V), σ = [some (.ref x), some (.ref aw), v2] ∧ RdSt C.Reading H0 H2 x l ro a1 a2 a3 rd ∧ H2 aw = some (.lst (ws.reverse.map waitV)) ∧ fin g ws rd (ds.drop rd.bg.length) = fin g (startW g) ⟨[], [], []⟩ ds ∧ (∀ p, Sum.inl p ∈ ws → isPartS p = true) ∧ (∀ k, Sum.inr k ∈ ws → k < rd.st.length) ∧ rd.st.length = rd.bg.length ∧ rd.bg.length ≤ ds.length ∧ rd.sg.length + ws.length ≤ 1 + 7 * rd.bg.length ∧ μ = 8 * (ds.length - rd.bg.length) + ws.length,
      ⟨_, [.inl r0.1], ⟨[], [], []⟩, none, rfl, st1, hw1, hf0, (fun p hp => ?_), (fun k hk => ?_), rfl, Nat.zero_le _, (show 0 + 1 ≤ 1 by decide), rfl⟩, ?_⟩
    · cases List.mem_singleton.mp hp
      exact name_partB (rule_head (rule_okB en.hg er0))
    · cases List.mem_singleton.mp hk
    rintro μ σ H2 ⟨ws, rd, v2, rfl, st2, hw2, hfin, hprt, hmk, hsb, hbd, hsz, hμ⟩
    cases ws with
    | nil =>
      refine ⟨_, rfl, false, .inl ⟨_, SqL.of hw2, rfl⟩, iteF ?_⟩
      have hyl : ys.length = ds.length := en.hys.len
      refine ⟨_, rfl, x, C.Reading, dx, _, _, rfl, st2.sm _ _ hx, T.cl_Reading, T.na_Reading_begins, rfl, a2, _, rfl, .inl (SqL.of st2.e2), _, rfl, x, C.Reading, dx, _, _, rfl, st2.sm _ _ hx, T.cl_Reading, T.na_Reading_row, rfl, ro, ys, rfl, .inl (.inl (en.same st2.sm).hro), _, _, rfl, rfl, _, rfl, ?_⟩
      rw [List.length_map, hyl]
      by_cases hlt : rd.bg.length < ds.length
      · rw [decide_eq_true (by omega)]
        rw [List.drop_eq_getElem_cons hlt, fin_nil1] at hfin
        exact iteT ⟨line1000 (by decide), ex hfin.symm H2 st2.sm st2.pl⟩
      · rw [decide_eq_false (by omega)]
        rw [List.drop_eq_nil_of_le (by omega), fin_nil0] at hfin
        exact iteF (q rd H2 hfin.symm st2)
    | cons w ws' =>
      have ew : (w :: ws').reverse.map waitV = ws'.reverse.map waitV ++ [waitV w] := by rw [List.reverse_cons, List.map_append]; rfl
      rw [ew] at hw2
      refine ⟨_, rfl, true, .inl ⟨_, SqL.of hw2, by simp⟩, iteT ⟨_, fun _ _ h => h, ?_⟩⟩
      have elast : (ws'.reverse.map waitV ++ [waitV w])[(ws'.reverse.map waitV ++ [waitV w]).length - 1]? = some (waitV w) := by simp
      refine ⟨_, rfl, .inl ⟨rfl, _, SqL.of hw2⟩, aw, _, _, rfl, rfl, hw2, elast, ?_⟩
      rw [List.dropLast_concat]
      have st3 : RdSt C.Reading H0 (upd H2 aw (.lst (ws'.reverse.map waitV))) x l ro a1 a2 a3 rd := st2.put hw0 w1 w2 w3 rfl
      have hw3 : upd H2 aw (.lst (ws'.reverse.map waitV)) aw = some (.lst (ws'.reverse.map waitV)) := upd_same
      revert st3 hw3
      generalize upd H2 aw (.lst (ws'.reverse.map waitV)) = H3
      intro st3 hw3
      rw [List.length_cons] at hsz hμ
      cases w with
      | inr k =>
        rw [fin_mark] at hfin
        have hkl := hmk k (List.mem_cons_self ..)
        refine ⟨_, rfl, .int (k : Int), .int (k : Int), rfl, .int _, rfl, st3.pl, _, rfl, iteT ?_⟩
        refine ⟨_, rfl, x, C.Reading, dx, _, _, rfl, st3.sm _ _ hx, T.cl_Reading, T.na_Reading_signs, rfl, a1, _, rfl, .inl (SqL.of st3.e1), _, rfl, x, C.Reading, dx, _, _, rfl, st3.sm _ _ hx, T.cl_Reading, T.na_Reading_stops, rfl, _, rfl, a3, _, _, k, rfl, rfl, st3.e3, ixN_lt (by rw [List.length_map]; exact hkl), ?_⟩
        have eb : (rd.st.map nV).set k (.int ((rd.sg.map chV).length : Nat)) = (rd.st.set k rd.sg.length).map nV := by rw [List.length_map, List.map_set]; rfl
        rw [eb]
        refine ⟨_, ?_, ws', ⟨rd.sg, rd.bg, rd.st.set k rd.sg.length⟩, _, rfl, st3.set3 _, by rw [upd_ne w3]; exact hw3, hfin, fun p h => hprt p (List.mem_cons_of_mem _ h), fun j h => by rw [List.length_set]; exact hmk j (List.mem_cons_of_mem _ h), by rw [List.length_set]; exact hsb, hbd, (show rd.sg.length + ws'.length ≤ 1 + 7 * rd.bg.length by omega), rfl⟩
        rw [hμ]
        show 8 * (ds.length - rd.bg.length) + ws'.length < _
        omega
      | inl p =>
        have hp := hprt p (List.mem_cons_self ..)
        have hp8 := part_len hp
        refine ⟨_, rfl, .str p, .str p, rfl, .str _, short_str (by omega), st3.pl, _, rfl, iteF ?_⟩
        refine ⟨_, rfl, rfl, _, _, rfl, rfl, _, rfl, ?_⟩
        by_cases hq : isQ p = true
        · rw [show Txt.startswith p "'" = true from hq]
          rw [fin_sign hq] at hfin
          refine iteT ⟨_, rfl, x, C.Reading, dx, _, _, rfl, st3.sm _ _ hx, T.cl_Reading, T.na_Reading_signs, rfl, .inl ⟨rfl, _, SqL.of st3.e1⟩, _, rfl, p, 1, sgn p, rfl, rfl, line1000 (by omega), sign_second hp hq, a1, _, _, rfl, rfl, st3.e1, by rw [List.length_map, sizeLine_eq]; omega, ?_⟩
          have eb : rd.sg.map chV ++ [V.str ⟨#[sgn p]⟩] = (rd.sg ++ [sgn p]).map chV := by rw [List.map_append]; rfl
          rw [eb]
          refine ⟨_, ?_, ws', ⟨rd.sg ++ [sgn p], rd.bg, rd.st⟩, _, rfl, st3.set1 _, by rw [upd_ne w1]; exact hw3, hfin, fun p h => hprt p (List.mem_cons_of_mem _ h), fun j h => hmk j (List.mem_cons_of_mem _ h), hsb, hbd, by rw [List.length_append]; show rd.sg.length + 1 + ws'.length ≤ 1 + 7 * rd.bg.length; omega, rfl⟩
          rw [hμ]
          show 8 * (ds.length - rd.bg.length) + ws'.length < _
          omega
        · have hq' : isQ p = false := Bool.eq_false_iff.mpr hq
          rw [show Txt.startswith p "'" = false from hq']
          rw [fin_name hq'] at hfin
          refine iteF ⟨_, rfl, x, dx, _, rfl, st3.sm _ _ hx, rfl, _, rfl, _, rfl, H0, x, l, ro, a1, a2, a3, aw, xs, ys, ws'.reverse.map waitV, g, ds, rd, p, rfl, st3, en, hbd, hsb, hw3, hw0, w1, w2, w3, by rw [List.length_map, List.length_reverse]; omega, fun k r H4 e st4 hw4 => ?_, fun e => ex (by rw [← hfin, e]) H3 st3.sm st3.pl⟩
          rw [e] at hfin
          obtain ⟨e1, er, ez⟩ := nextR_some e
          have hbl : rd.bg.length < ds.length := (List.getElem?_eq_some_iff.mp e1).1
          have hok := rule_parts (rule_okB en.hg er)
          have e6 := hok.1
          have ews : (r.2.1.map Sum.inl ++ (Sum.inr rd.bg.length :: ws') : List Wait).reverse.map waitV = ws'.reverse.map waitV ++ [nV rd.bg.length] ++ r.2.1.reverse.map V.str := by
            rw [List.reverse_append, List.reverse_cons, List.map_append, List.map_append, ← List.map_reverse, List.map_map]
            rfl
          refine ⟨_, ?_, r.2.1.map Sum.inl ++ (Sum.inr rd.bg.length :: ws'), _, _, rfl, st4, by rw [ews]; exact hw4, ?_, fun p' h => ?_, fun j h => ?_, ?_, ?_, ?_, rfl⟩
          · rw [hμ]
            simp only [List.length_append, List.length_map, List.length_cons, List.length_nil]
            omega
          · show fin g _ _ (ds.drop (rd.bg ++ [rd.sg.length]).length) = _
            rw [List.length_append]
            exact hfin
          · rcases List.mem_append.mp h with h | h
            · obtain ⟨y, hy, ey⟩ := List.mem_map.mp h
              cases ey
              exact hok.2 _ hy
            · rcases List.mem_cons.mp h with h | h
              · cases h
              · exact hprt p' (List.mem_cons_of_mem _ h)
          · show j < (rd.st ++ [rd.sg.length]).length
            rw [List.length_append]
            show j < rd.st.length + 1
            rcases List.mem_append.mp h with h | h
            · obtain ⟨y, hy, ey⟩ := List.mem_map.mp h
              cases ey
            · rcases List.mem_cons.mp h with h | h
              · cases h
                omega
              · have := hmk j (List.mem_cons_of_mem _ h)
                omega
          · show (rd.st ++ [rd.sg.length]).length = (rd.bg ++ [rd.sg.length]).length
            rw [List.length_append, List.length_append, hsb]
          · show (rd.bg ++ [rd.sg.length]).length ≤ _
            rw [List.length_append]
            exact hbl
          · simp only [List.length_append, List.length_map, List.length_cons, List.length_nil]
            omega
theorem sc_read_row : FnScope ["rules", "row", "reading"] ["rules", "row"] (defScope s_read_row) := ⟨rfl, rfl, rfl, by decide +kernel, rfl, by decide +kernel, by decide +kernel⟩
theorem ok_read_row {f : Addr} {fd : FuncData} (F : Fun K "read_row" "read_row" s_read_row f fd) (T : Txt K mg C) (U_Reading___init__ : UsedI P w K mg CX0 1 C.Reading ["self", "rules", "row"] (spInit C.Reading)) (U_Reading_take_all : UsedM P w K mg (CXo P w) 4 C.Reading "take_all" ["self"] (spAll C.Reading C.NoRow)) : FnOk P w K mg base (CXo P w) 5 f fd ["rules", "row"] (spReadRow C.Reading C.NoRow) := by
  obtain ⟨f_Reading___init__, fd_Reading___init__, G_Reading___init__, M_Reading___init__, b_Reading___init__⟩ := U_Reading___init__.ok
  obtain ⟨f_Reading_take_all, fd_Reading_take_all, G_Reading_take_all, me_Reading_take_all, b_Reading_take_all⟩ := U_Reading_take_all.ok
  refine F.okX sc_read_row (fun vs H Q E h => ?_) (fun cdv A outer s H vs Q E hr h => ?_)
  · obtain ⟨l, y, xs, g, d, rfl, _⟩ := h
    rfl
  · obtain ⟨l, y, xs, g, d, rfl, hl, hds, hg, den, sh, hlen, hp, q, ex⟩ := h
    refine ⟨_, (pss_cons (ps_if (PW.pt (pw_or (pt_not (pt_val (pe_callB (call_isiK K rfl) (by rfl) T.z_isinstance PyProof.Rows.Boot.«isinstance» (pa_cons (pv 1) (pa_cons (pe_bltn (v := .ty "list") (by rfl) T.z_list PyProof.Rows.Boot.«list» rfl) pa_nil))))) (pw_or1 (pt_not (pt_truthK K rfl (pv 0) (fun _ => rfl)))))) (pss_one (ps_raise sink_def T.x_NoRow rfl (by rfl) T.n_NoRow (pa_cons pe_str pa_nil))) pss_nil)
      (pss_cons (ps_set (i := 2) sc_read_row.nd rfl (Or.inl rfl) (pe_make M_Reading___init__ (G_Reading___init__ base) (hr.mono (by decide)) (by rfl) T.n_Reading b_Reading___init__ .nil pass0 (pa_cons (pv 0) (pa_cons (pv 1) pa_nil))))
      (pss_cons (ps_expr (pe_meth0 (pv 2) T.cl_Reading me_Reading_take_all (G_Reading_take_all base) (hr.mono (by decide)) b_Reading_take_all .nil sink_def.on))
      (pss_one (ps_ret (pv 2)))))), ?_⟩
    have hxl : xs.length = g.length := by rw [hds.len, List.length_map]
    refine ⟨_, rfl, _, _, _, _, _, rfl, den.ty, rfl, kit_list d, _, rfl, ?_⟩
    cases d with
    | lst ds =>
      obtain ⟨ro, ys, rfl, hro, hys⟩ := den.to_lst
      refine iteF ⟨_, rfl, _, .inl ⟨xs, SqL.of hl, rfl⟩, ?_⟩
      cases g with
      | nil =>
        cases xs with
        | cons a b => cases hxl
        | nil => exact iteT ⟨line1000 (by decide), ex rfl H (Same.refl _) hp⟩
      | cons r0 rest =>
        cases xs with
        | nil => cases hxl
        | cons v0 xs' =>
          refine iteF ?_
          obtain ⟨g, eg⟩ : ∃ g, r0 :: rest = g := ⟨_, rfl⟩
          obtain ⟨xs, exs⟩ : ∃ xs, v0 :: xs' = xs := ⟨_, rfl⟩
          rw [eg] at hds hg q ex
          rw [exs] at hl hds
          have hne : g ≠ [] := by rw [← eg]; exact fun h => nomatch h
          have hrd : readG g ds = fin g (startW g) ⟨[], [], []⟩ ds := by unfold readG; rw [if_neg hne]
          refine ⟨_, rfl, _, rfl, fun x dx hx hdx hnx => ⟨H, x, l, ro, dx, rfl, upd_same, hx, (Same.upd hdx).put hx, (hp.upd rfl).upd rfl, fun a1 a2 a3 H1 s1 p1 x1 z1 z2 z3 n12 n13 n23 n1 n2 n3 w1 w2 w3 => ⟨rfl, ?_⟩⟩⟩
          have sb : Same H (del (del (del H1 a1) a2) a3) := ((s1.to_del z1).to_del z2).to_del z3
          have xb : del (del (del H1 a1) a2) a3 x = some (.ins C.Reading dx (fldR l ro a1 a2 a3)) := by rw [del_ne n3.symm, del_ne n2.symm, del_ne n1.symm]; exact x1
          have sb1 : Same (del (del (del H1 a1) a2) a3) H1 := ((del_same _ _).trans (del_same _ _)).trans (del_same _ _)
          have b1 : del (del (del H1 a1) a2) a3 a1 = none := by rw [del_ne n13, del_ne n12]; exact del_self
          have b2 : del (del (del H1 a1) a2) a3 a2 = none := by rw [del_ne n23]; exact del_self
          have b3 : del (del (del H1 a1) a2) a3 a3 = none := del_self
          revert sb xb sb1 b1 b2 b3
          generalize del (del (del H1 a1) a2) a3 = Hb
          intro sb xb sb1 b1 b2 b3
          have stb : RdSt C.Reading Hb H1 x l ro a1 a2 a3 ⟨[], [], []⟩ := ⟨sb1, p1, ⟨dx, xb⟩, b1, b2, b3, n12, n13, n23, w1, w2, w3⟩
          have enb : RdEnv Hb l ro xs ys g ds := RdEnv.same ⟨hl, hds, hg, hro, hys, fun d hd => shortS_mem sh hd, hlen ds rfl⟩ sb
          refine ⟨_, rfl, x, dx, _, rfl, x1, rfl, Hb, x, l, ro, a1, a2, a3, xs, ys, g, ds, rfl, stb, enb, hne, fun rd H2 e st2 => ⟨_, rfl, q ro ds rd x Hb H2 a1 a2 a3 rfl rfl (hrd.trans e) sb st2⟩, fun e H2 sm pl => ex (hrd.trans e) H2 (sb.trans sm) pl⟩
    | _ => exact iteT ⟨line1000 (by decide), ex rfl H (Same.refl _) hp⟩
end
end FR


set_option linter.all false
set_option maxRecDepth 100000
set_option maxHeartbeats 4000000
namespace FR
open PySem L2
theorem nd_P3d_number_rules : (["number", "rules"] : List Str).Nodup := by decide +kernel
theorem sum_onesB : ∀ l : List Nat, (l.map fun _ => 1).sum = l.length
  | [] => rfl
  | a :: l => by rw [List.map_cons, List.sum_cons, sum_onesB l, List.length_cons]; omega
section
variable {P : Program} {w : World} {K : PySem.W.Frag} {mg : Str → Option Value} {base : Heap} {C : Adr}
theorem sc_text_of : FnScope ["grammar", "row"] ["grammar", "row"] (defScope s_text_of) := ⟨rfl, rfl, rfl, by decide +kernel, rfl, by decide +kernel, by decide +kernel⟩
theorem ok_text_of {f : Addr} {fd : FuncData} (F : Fun K "text_of" "text_of" s_text_of f fd) (T : Txt K mg C) (U_read_row : Used P w K mg (CXo P w) 5 "read_row" ["rules", "row"] (spReadRow C.Reading C.NoRow)) (U_checked : Used P w K mg (CXo P w) 7 "checked" ["thing"] (spChecked C.NoGrammar)) : FnOk P w K mg base (CXo P w) 8 f fd ["grammar", "row"] (spTextOf C.NoGrammar C.NoRow) := by
  obtain ⟨f_read_row, fd_read_row, G_read_row, m_read_row, k_read_row, b_read_row⟩ := U_read_row.ok
  obtain ⟨f_checked, fd_checked, G_checked, m_checked, k_checked, b_checked⟩ := U_checked.ok
  refine F.okX sc_text_of (fun vs H Q E h => ?_) (fun cdv A outer s H vs Q E hr h => ?_)
  · obtain ⟨x, y, dg, d, rfl, _⟩ := h
    rfl
  · obtain ⟨x, y, dg, d, rfl, den, sh, denr, shr, hlen, hp, q1, q2⟩ := h
    refine ⟨_, (pss_one (ps_ret (pe_bmK K rfl PySem.F.plainAttrs_str PySem.F.slot_str_join PySem.F.type_str_join (mt_joinK K rfl) pe_str (pa_cons (pe_fldK K rfl (pe_call (G_read_row base) (hr.mono (by decide)) (by rfl) m_read_row k_read_row b_read_row .nil sink_def.on (pa_cons (pe_call (G_checked base) (hr.mono (by decide)) (by rfl) m_checked k_checked b_checked .nil sink_def.on (pa_cons (pv 0) pa_nil)) (pa_cons (pv 1) pa_nil))) rfl) pa_nil)))), ?_⟩
    refine ⟨rfl, _, rfl, x, dg, rfl, den, sh, hp, fun e l xs ds ed hds hl => ?_, fun e => q2 e H (Same.refl H) hp⟩
    obtain ⟨g, rfl, hg⟩ := gram_of e
    cases ed
    have s1 := Same.upd (o := .lst xs) hl
    refine ⟨_, rfl, l, y, xs, g, d, rfl, upd_same, hds.same s1, hg, denr.same s1, shr, hlen, hp.upd rfl, fun ro ds rd x' H0 H' a1 a2 a3 ey ed er sm st => ?_, fun e H' sm pl => (q1 g rfl hg).2 e H' (s1.trans sm) pl⟩
    subst ed
    obtain ⟨dx, hx⟩ := st.x_
    have hsz := read_len hg er
    have hl2 := hlen ds rfl
    have e1 : SqL K H' a1 ((rd.sg.map fun c => (⟨#[c]⟩ : Str)).map V.str) := by
      rw [List.map_map]
      exact SqL.of st.e1
    refine ⟨x', C.Reading, dx, _, _, rfl, st.sm _ _ hx, T.cl_Reading, T.na_Reading_signs, rfl, "", a1, _, rfl, rfl, e1, ?_, ?_⟩
    · have e0 : (("" : Str)).length = 0 := by decide +kernel
      rw [e0, Nat.mul_zero, List.map_map]
      have : ((rd.sg.map ((·.length) ∘ fun c => (⟨#[c]⟩ : Str)))).sum = rd.sg.length := by
        exact sum_onesB rd.sg
      rw [this]
      omega
    · rw [join_ones]
      exact (q1 g rfl hg).1 rd H' er ((s1.trans sm).trans st.sm) st.pl
theorem sc_worth_of : FnScope ["grammar", "row", "rules"] ["grammar", "row"] (defScope s_worth_of) := ⟨rfl, rfl, rfl, by decide +kernel, rfl, by decide +kernel, by decide +kernel⟩
theorem ok_worth_of {f : Addr} {fd : FuncData} (F : Fun K "worth_of" "worth_of" s_worth_of f fd) (T : Txt K mg C) (U_checked : Used P w K mg (CXo P w) 7 "checked" ["thing"] (spChecked C.NoGrammar)) (U_read_row : Used P w K mg (CXo P w) 5 "read_row" ["rules", "row"] (spReadRow C.Reading C.NoRow)) : FnOk P w K mg base (CXo P w) 8 f fd ["grammar", "row"] (spWorthOf C.NoGrammar C.NoRow) := by
  obtain ⟨f_checked, fd_checked, G_checked, m_checked, k_checked, b_checked⟩ := U_checked.ok
  obtain ⟨f_read_row, fd_read_row, G_read_row, m_read_row, k_read_row, b_read_row⟩ := U_read_row.ok
  refine F.okX sc_worth_of (fun vs H Q E h => ?_) (fun cdv A outer s H vs Q E hr h => ?_)
  · obtain ⟨x, y, dg, d, rfl, _⟩ := h
    rfl
  · obtain ⟨x, y, dg, d, rfl, den, sh, denr, shr, hlen, hp, q1, q2⟩ := h
    refine ⟨_, (pss_cons (ps_set (i := 2) sc_worth_of.nd rfl (Or.inr rfl) (pe_call (G_checked base) (hr.mono (by decide)) (by rfl) m_checked k_checked b_checked .nil sink_def.on (pa_cons (pv 0) pa_nil)))
      (pss_cons (ps_expr (pe_call (G_read_row base) (hr.mono (by decide)) (by rfl) m_read_row k_read_row b_read_row .nil sink_def.on (pa_cons (pv 2) (pa_cons (pv 1) pa_nil))))
      (pss_one (ps_ret (pe_callB (call_sum rfl) (by rfl) T.z_sum PyProof.Rows.Boot.«sum» (pa_cons (pe_comp (N := ["number", "rules"]) (ρ := [none, some 2]) rfl (CompScope.closes ["grammar", "row", "rules"] (defScope s_worth_of).names rfl rfl rfl rfl (by decide +kernel) (by decide +kernel) (fun x h => cell_has h) (by decide +kernel) rfl (by decide +kernel)) (pi_listK K rfl (pv 1)) (fun _ _ _ _ _ => (pg_name (i := 0) nd_P3d_number_rules rfl (Or.inl rfl) (.inr rfl))) (fun _ _ _ _ _ => pts_nil) (fun _ _ _ _ _ => (pe_ix (ix_tupK K rfl) (pe_ix (ix_listK K rfl) (pv 1) (pv 0) (fun _ _ => rfl)) pe_int (fun _ _ => rfl)))) pa_nil)))))), ?_⟩
    refine ⟨_, rfl, x, dg, rfl, den, sh, hp, fun e l xs ds ed hds hl => ?_, fun e => q2 e H (Same.refl H) hp⟩
    obtain ⟨g, rfl, hg⟩ := gram_of e
    cases ed
    have s1 := Same.upd (o := .lst xs) hl
    refine ⟨_, rfl, _, rfl, l, y, xs, g, d, rfl, upd_same, hds.same s1, hg, denr.same s1, shr, hlen, hp.upd rfl, fun ro ds rd x' H0 H' a1 a2 a3 ey ed er sm st => ?_, fun e H' sm pl => (q1 g rfl hg).2 e H' (s1.trans sm) pl⟩
    subst ed
    subst ey
    have s2 := (s1.trans sm).trans st.sm
    have hl2 := hlen ds rfl
    have hl' : H' l = some (.lst xs) := (sm.trans st.sm) _ _ upd_same
    obtain ⟨ro', ys, ero, hro, hys⟩ := (denr.same s2).to_lst
    cases ero
    have hyl : ys.length = ds.length := hys.len
    refine ⟨_, rfl, ro, rfl, ⟨_, .inl hro⟩, fun ln hln => ?_⟩
    have hJ2 := (gives_list (K := K) (.inl hro)).g
    rw [hyl] at hJ2
    refine comp_fm ds (fun d => some (.int (wOf g d))) hJ2 st.pl hln (by rw [sizeLine_eq]; omega) (fun τ' => ∃ v, τ' = [v, some (.ref l)]) ⟨_, rfl⟩ ?_ ?_
    · rintro τ' k d v H3 Q1 Q2 ⟨v0, rfl⟩ hd hit hs hp' hQ1 hQ2
      obtain ⟨r, hr⟩ := read_nums hg er d (List.mem_of_getElem? hd)
      obtain ⟨kk, rfl, er2⟩ := numD_int hr
      obtain ⟨d', hd', den'⟩ := hys.get hit
      rw [hd] at hd'
      cases hd'
      have ev := den'.to_int
      subst ev
      obtain ⟨t, pp, ax, ht, hpp⟩ := rule_num ((hds.same s2).same hs) er2
      exact ⟨_, rfl, _, rfl, l, _, _, _, rfl, rfl, SqL.of (hs _ _ hl'), ax, t, _, 2, _, rfl, rfl, SqT.of ht, rfl, hQ1 _ _ _ ⟨_, rfl⟩ (Same.refl _) hp' (by unfold wOf; rw [hr])⟩
    intro H5 s5 p5 h5
    have ei : ds.filterMap (fun d => some (V.int (wOf g d))) = (ds.map (wOf g)).map V.int := by
      rw [List.map_map, ← List.filterMap_eq_map]
      rfl
    rw [ei] at h5
    exact ⟨ln, _, rfl, SqL.of h5, (q1 g rfl hg).1 ds rd H5 rfl er (s2.trans s5) p5⟩
end
end FR


set_option linter.all false
set_option maxRecDepth 100000
set_option maxHeartbeats 4000000
namespace FR
open PySem L2

section
variable {P : Program} {w : World} {K : PySem.W.Frag} {mg : Str → Option Value} {base : Heap} {C : Adr}
theorem sc_spans_of : FnScope ["grammar", "row", "reading"] ["grammar", "row"] (defScope s_spans_of) := ⟨rfl, rfl, rfl, by decide +kernel, rfl, by decide +kernel, by decide +kernel⟩
theorem ok_spans_of {f : Addr} {fd : FuncData} (F : Fun K "spans_of" "spans_of" s_spans_of f fd) (T : Txt K mg C) (U_read_row : Used P w K mg (CXo P w) 5 "read_row" ["rules", "row"] (spReadRow C.Reading C.NoRow)) (U_checked : Used P w K mg (CXo P w) 7 "checked" ["thing"] (spChecked C.NoGrammar)) : FnOk P w K mg base (CXo P w) 8 f fd ["grammar", "row"] (spSpansOf C.NoGrammar C.NoRow) := by
  obtain ⟨f_read_row, fd_read_row, G_read_row, m_read_row, k_read_row, b_read_row⟩ := U_read_row.ok
  obtain ⟨f_checked, fd_checked, G_checked, m_checked, k_checked, b_checked⟩ := U_checked.ok
  refine F.okX sc_spans_of (fun vs H Q E h => ?_) (fun cdv A outer s H vs Q E hr h => ?_)
  · obtain ⟨x, y, dg, d, rfl, _⟩ := h
    rfl
  · obtain ⟨x, y, dg, d, rfl, den, sh, denr, shr, hlen, hp, q1, q2⟩ := h
    refine ⟨_, (pss_cons (ps_set (i := 2) sc_spans_of.nd rfl (Or.inl rfl) (pe_call (G_read_row base) (hr.mono (by decide)) (by rfl) m_read_row k_read_row b_read_row .nil sink_def.on (pa_cons (pe_call (G_checked base) (hr.mono (by decide)) (by rfl) m_checked k_checked b_checked .nil sink_def.on (pa_cons (pv 0) pa_nil)) (pa_cons (pv 1) pa_nil))))
      (pss_one (ps_ret (pe_list_zip K rfl rfl rfl T.z_list rfl T.z_zip (pa_cons (pv 1) (pa_cons (pe_fldK K rfl (pv 2) rfl) (pa_cons (pe_fldK K rfl (pv 2) rfl) pa_nil))))))), ?_⟩
    refine ⟨_, rfl, x, dg, rfl, den, sh, hp, fun e l xs ds ed hds hl => ?_, fun e => q2 e H (Same.refl H) hp⟩
    obtain ⟨g, rfl, hg⟩ := gram_of e
    cases ed
    have s1 := Same.upd (o := .lst xs) hl
    refine ⟨_, rfl, l, y, xs, g, d, rfl, upd_same, hds.same s1, hg, denr.same s1, shr, hlen, hp.upd rfl, fun ro ds rd x' H0 H' a1 a2 a3 ey ed er sm st => ?_, fun e H' sm pl => (q1 g rfl hg).2 e H' (s1.trans sm) pl⟩
    subst ed
    subst ey
    have s2 := (s1.trans sm).trans st.sm
    obtain ⟨ro', ys, ero, hro, hys⟩ := (denr.same s2).to_lst
    cases ero
    have hyl : ys.length = ds.length := hys.len
    obtain ⟨n2, n3⟩ := read_lens hg er
    obtain ⟨dx, hx⟩ := st.x_
    refine ⟨_, rfl, _, rfl, x', C.Reading, dx, _, _, rfl, st.sm _ _ hx, T.cl_Reading, T.na_Reading_begins, rfl, _, rfl, x', C.Reading, dx, _, _, rfl, st.sm _ _ hx, T.cl_Reading, T.na_Reading_stops, rfl, ro, a2, a3, ys, rd.bg.map nV, rd.st.map nV, rfl, .inl hro, SqL.of st.e2, SqL.of st.e3, by rw [List.length_map]; omega, by rw [List.length_map]; omega, fun lo ts ht fr => ?_⟩
    obtain ⟨f1, f2, f3, f4, f5⟩ := zpOps_facts fr ht (by rw [List.length_map]; omega) (by rw [List.length_map]; omega)
    refine (q1 g rfl hg).1 ds rd lo ts _ rfl er (s2.trans f1) (f2 st.pl) (s2.free f3) f4 (by omega) fun j t k b e e1 e2 e3 e4 => ?_
    have hj : j < ys.length := by
      rw [hyl]
      exact (List.getElem?_eq_some_iff.mp e2).1
    have ey : ys[j]? = some ys[j] := List.getElem?_eq_getElem hj
    obtain ⟨d0, ed0, dj⟩ := hys.get ey
    rw [e2] at ed0
    cases ed0
    have := dj.to_int
    rw [this] at ey
    exact f5 j t (.int k) (nV b) (nV e) e1 ey (by rw [List.getElem?_map, e3]; rfl) (by rw [List.getElem?_map, e4]; rfl)
end
end FR


set_option linter.all false
set_option maxRecDepth 100000
set_option maxHeartbeats 4000000
namespace FR
open PySem L2
abbrev s__law_cell_at : Stmt := top 38
abbrev s__law_mixed : Stmt := top 39
abbrev s__law_signs : Stmt := top 40
abbrev s__law_names : Stmt := top 41
abbrev s__law_worth : Stmt := top 42
abbrev s__law_parts : Stmt := top 43
abbrev s__law_whole : Stmt := top 50
abbrev s__law_no_grammar : Stmt := top 53
abbrev s__law_right : Stmt := top 54
abbrev s_law : Stmt := top 55
theorem nd_LG__law_k__law_big__law_odd : (["_law_k", "_law_big", "_law_odd"] : List Str).Nodup := by decide +kernel
theorem nd_LG__law_k__law_at__law_base__law_big__law_odd : (["_law_k", "_law_at", "_law_base", "_law_big", "_law_odd"] : List Str).Nodup := by decide +kernel
def spMixed (K : PySem.W.Frag) : Sp := fun vs H Q _ => ∃ (a : Addr) (ns : List Int) (k : Int), vs = [.ref a, .int k] ∧ SqL K H a (ns.map V.int) ∧ 0 ≤ k ∧ k ≤ 1000 ∧ ∀ v : Int, 0 ≤ v → v < 2147483647 → Q (.int v) H
def spSigns : Sp := fun vs H Q _ => ∃ c : Int, vs = [.int c] ∧ Plain H ∧ ∀ l (a b d : Nat) H', good a = true → good b = true → good d = true → Same H H' → Plain H' → H l = none → H' l = some (.lst [.str ⟨#[a]⟩, .str ⟨#[b]⟩, .str ⟨#[d]⟩]) → Q (.ref l) H'
def spNames : Sp := fun vs H Q _ => ∃ c : Int, vs = [.int c] ∧ 0 ≤ c ∧ c < 2147483648 ∧ Plain H ∧ ∀ l (ns : List Str) H', ns.length = 4 → (∀ z ∈ ns, isNameS z = true) → Same H H' → Plain H' → H l = none → H' l = some (.lst (ns.map V.str)) → Q (.ref l) H'
def spWorthL : Sp := fun vs H Q _ => ∃ c : Int, vs = [.int c] ∧ ∀ z : Int, 0 ≤ z → z ≤ 10 ^ 60 → Q (.int z) H
def spParts : Sp := fun vs H Q _ => ∃ (c : Int) (m : Addr) (zs : List Str) (n : Int), vs = [.int c, .ref m, .int n] ∧ H m = some (.lst (zs.map V.str)) ∧ 1 ≤ zs.length ∧ zs.length ≤ 100 ∧ 0 ≤ n ∧ n ≤ 6 ∧ Plain H ∧
  ∀ t (ps : List Str) H', (ps.length : Int) ≤ n → (∀ p ∈ ps, p ∈ zs) → Same H H' → Plain H' → H t = none → H' t = some (.tup (ps.map V.str)) → Q (.ref t) H'
def SOME : Str := halfOf s__law_signs 0 ++ halfOf s__law_signs 1
theorem some_list : SOME.cps.toList = goodCodes := by decide +kernel
theorem some_line : SOME.length ≤ sizeLine := line1000 (by decide +kernel)
theorem name_part {z : Str} (h : isNameS z = true) : isPartS z = true := by
  unfold isPartS
  rw [h, Bool.or_true]
theorem name_cut {z : Str} {c : Nat} {j : Int} (hz : z.length ≤ 7) (hl : z.cps.toList.all letter = true) (hc : letter c = true) (h0 : 0 ≤ j) (h1 : j ≤ z.length) :
    isNameS (Txt.slice z none (some j) ++ ⟨#[c]⟩ ++ Txt.slice z (some j) none) = true := by
  rw [isName_list, app_list, app_list, slice_to h0 h1, slice_from h0 h1]
  have hzl : z.cps.toList.length = z.length := Array.length_toList
  unfold nameL
  have e1 : ((z.cps.toList.take j.toNat ++ [c] ++ z.cps.toList.drop j.toNat).length) = z.length + 1 := by
    rw [List.length_append, List.length_append, List.length_take, List.length_drop, hzl]
    show min j.toNat z.length + 1 + (z.length - j.toNat) = _
    omega
  show (decide (1 ≤ (z.cps.toList.take j.toNat ++ [c] ++ z.cps.toList.drop j.toNat).length) && decide ((z.cps.toList.take j.toNat ++ [c] ++ z.cps.toList.drop j.toNat).length ≤ 8) && (z.cps.toList.take j.toNat ++ [c] ++ z.cps.toList.drop j.toNat).all letter) = true
  rw [e1, decide_eq_true (by omega), decide_eq_true (by omega)]
  rw [List.all_eq_true] at hl
  rw [List.all_append, List.all_append]
  have a1 : (z.cps.toList.take j.toNat).all letter = true := List.all_eq_true.mpr fun x hx => hl x (List.mem_of_mem_take hx)
  have a2 : (z.cps.toList.drop j.toNat).all letter = true := List.all_eq_true.mpr fun x hx => hl x (List.mem_of_mem_drop hx)
  rw [a1, a2]
  show (true && (true && [c].all letter && true)) = true
  rw [List.all_cons, hc]
  rfl
theorem name_mul {c : Nat} {n : Int} (hc : letter c = true) (h0 : 1 ≤ n) (h1 : n ≤ 8) : isNameS (Txt.mul ⟨#[c]⟩ n) = true := by
  rw [isName_list, PyProof.Rows.mul_one_list]
  unfold nameL
  rw [List.length_replicate, decide_eq_true (by omega), decide_eq_true (by omega)]
  show (List.replicate n.toNat c).all letter = true
  rw [List.all_eq_true]
  intro x hx
  rw [(List.mem_replicate.mp hx).2]
  exact hc
section
variable {P : Program} {w : World} {K : PySem.W.Frag} {mg : Str → Option Value} {base : Heap} {C : Adr}
theorem sc__law_cell_at : FnScope ["_law_script", "_law_k"] ["_law_script", "_law_k"] (defScope s__law_cell_at) := ⟨rfl, rfl, rfl, by decide +kernel, rfl, by decide +kernel, by decide +kernel⟩
theorem ok__law_cell_at {f : Addr} {fd : FuncData} (F : Fun K "_law_cell_at" "_law_cell_at" s__law_cell_at f fd) (T : Txt K mg C) : FnOk P w K mg base CX0 1 f fd ["_law_script", "_law_k"] (spCell K) := by
  refine F.ok sc__law_cell_at (fun vs H Q E h => ?_) (fun cdv A outer s H vs Q E hr h => ?_)
  · obtain ⟨a, ns, k, rfl, _⟩ := h
    rfl
  · obtain ⟨a, ns, k, rfl, hS, h0, q⟩ := h
    refine ⟨_, (pss_cons (ps_if (pt_cmpR op_lt (pv 1) (pe_callB (call_len_seqK K rfl) (by rfl) T.z_len PyProof.Rows.Boot.«len» (pa_cons (pv 0) pa_nil)) (nomark _)) (pss_one (ps_ret (pe_ix (ix_listK K rfl) (pv 0) (pv 1) (fun _ _ => rfl)))) pss_nil)
      (pss_one (ps_ret pe_int))), ?_⟩
    refine ⟨_, rfl, _, rfl, a, _, rfl, .inl hS, _, _, rfl, rfl, _, rfl, ?_⟩
    refine ite2 (fun h1 => ?_) fun h1 => ?_
    · have h1' := of_decide_eq_true h1
      obtain ⟨v, hv, hm⟩ := atI_some h0 h1'
      obtain ⟨n, _, rfl⟩ := List.mem_map.mp hm
      exact ⟨_, rfl, _, rfl, a, _, k, _, rfl, rfl, hS, hv, q n⟩
    · exact q 0
theorem sc__law_mixed : FnScope ["_law_script", "_law_k", "_law_cell"] ["_law_script", "_law_k"] (defScope s__law_mixed) := ⟨rfl, rfl, rfl, by decide +kernel, rfl, by decide +kernel, by decide +kernel⟩
theorem ok__law_mixed {f : Addr} {fd : FuncData} (F : Fun K "_law_mixed" "_law_mixed" s__law_mixed f fd) (T : Txt K mg C) (U__law_cell_at : Used P w K mg CX0 1 "_law_cell_at" ["_law_script", "_law_k"] (spCell K)) : FnOk P w K mg base CX0 2 f fd ["_law_script", "_law_k"] (spMixed K) := by
  obtain ⟨f__law_cell_at, fd__law_cell_at, G__law_cell_at, m__law_cell_at, k__law_cell_at, b__law_cell_at⟩ := U__law_cell_at.ok
  refine F.ok sc__law_mixed (fun vs H Q E h => ?_) (fun cdv A outer s H vs Q E hr h => ?_)
  · obtain ⟨a, ns, k, rfl, _⟩ := h
    rfl
  · obtain ⟨a, ns, k, rfl, hS, k0, k1, q⟩ := h
    refine ⟨_, (pss_cons (ps_set (i := 2) sc__law_mixed.nd rfl (Or.inl rfl) (pe_op op_mod (pe_call (G__law_cell_at base) (hr.mono (by decide)) (by rfl) m__law_cell_at k__law_cell_at b__law_cell_at .nil pass0 (pa_cons (pv 0) (pa_cons (pv 1) pa_nil))) pe_int))
      (pss_one (ps_ret (pe_op op_mod (pe_op op_mul (pe_op op_add (pe_op op_add (pe_op op_add (pe_op op_mul (pv 2) (pv 2)) (pv 2)) (pe_op op_mul (pe_op op_mul pe_int (pv 1)) (pv 1))) pe_int) pe_int) pe_int)))), ?_⟩
    refine ⟨_, rfl, _, rfl, a, ns, k, rfl, hS, k0, fun v => ⟨_, _, rfl, rfl, (by show (0 : Int) < 2147483629; decide), ?_⟩⟩
    have c0 : 0 ≤ v % 2147483629 := by omega
    have c1 : v % 2147483629 < 2147483629 := by omega
    refine ⟨_, rfl, _, rfl, _, _, rfl, rfl, .inl ⟨by omega, by omega⟩, _, rfl, _, _, rfl, rfl, _, rfl, _, _, rfl, rfl, .inl ⟨by decide, by decide⟩, _, rfl, _, _, rfl, rfl, .inr ⟨by omega, by omega⟩, _, _, rfl, rfl, _, _, rfl, rfl, _, _, rfl, rfl, .inr ⟨by decide, by decide⟩, _, _, rfl, rfl, (by show (0 : Int) < 2147483647; decide), q _ ?_ ?_⟩
    · exact Int.emod_nonneg _ (by decide)
    · exact Int.emod_lt_of_pos _ (by decide)
theorem sc__law_signs : FnScope ["_law_cell", "_law_some"] ["_law_cell"] (defScope s__law_signs) := ⟨rfl, rfl, rfl, by decide +kernel, rfl, by decide +kernel, by decide +kernel⟩
theorem ok__law_signs {f : Addr} {fd : FuncData} (F : Fun K "_law_signs" "_law_signs" s__law_signs f fd) (T : Txt K mg C) : FnOk P w K mg base CX0 1 f fd ["_law_cell"] (spSigns) := by
  refine F.ok sc__law_signs (fun vs H Q E h => ?_) (fun cdv A outer s H vs Q E hr h => ?_)
  · obtain ⟨c, rfl, _⟩ := h
    rfl
  · obtain ⟨c, rfl, hp, q⟩ := h
    refine ⟨_, (pss_cons (ps_set (i := 1) sc__law_signs.nd rfl (Or.inl rfl) pe_str)
      (pss_cons (ps_set (i := 1) sc__law_signs.nd rfl (Or.inl rfl) (pe_op op_add_str (pv 1) pe_str))
      (pss_one (ps_ret (pe_lst (pa_cons (pe_ix ix_str (pv 1) (pe_op op_mod (pv 0) pe_int) (fun _ _ => rfl)) (pa_cons (pe_ix ix_str (pv 1) (pe_op op_mod (pe_op op_add (pe_op op_add (pv 0) pe_int) (pe_op op_mod (pe_op op_fdiv (pv 0) pe_int) pe_int)) pe_int) (fun _ _ => rfl)) (pa_cons (pe_ix ix_str (pv 1) (pe_op op_mod (pe_op op_add (pe_op op_add (pv 0) pe_int) (pe_op op_mod (pe_op op_fdiv (pv 0) pe_int) pe_int)) pe_int) (fun _ _ => rfl)) pa_nil)))))))), ?_⟩
    refine ⟨_, rfl, halfOf s__law_signs 0, halfOf s__law_signs 1, rfl, rfl, by decide +kernel, ?_⟩
    have at_ : ∀ i : Int, ∃ k, atI SOME.cps.toList (i % 94) = some k ∧ good k = true := fun i => by
      obtain ⟨k, hk, hm⟩ := atI_some (xs := SOME.cps.toList) (i := i % 94) (by omega) (by rw [some_list, codes_len]; omega)
      rw [some_list] at hm
      exact ⟨k, hk, codes_good hm⟩
    obtain ⟨k1, e1, g1⟩ := at_ c
    obtain ⟨k2, e2, g2⟩ := at_ (c + 1 + c / 94 % 46)
    obtain ⟨k3, e3, g3⟩ := at_ (c + 47 + c / 4324 % 46)
    refine ⟨_, rfl, _, rfl, _, _, rfl, rfl, (by show (0 : Int) < 94; decide), SOME, _, k1, rfl, rfl, some_line, e1, ?_⟩
    refine ⟨_, rfl, _, rfl, _, _, rfl, rfl, _, rfl, _, _, rfl, rfl, ⟨by decide, by decide⟩, _, _, rfl, rfl, (by show (0 : Int) < 46; decide), _, _, rfl, rfl, _, _, rfl, rfl, (by show (0 : Int) < 94; decide), SOME, _, k2, rfl, rfl, some_line, e2, ?_⟩
    refine ⟨_, rfl, _, rfl, _, _, rfl, rfl, _, rfl, _, _, rfl, rfl, ⟨by decide, by decide⟩, _, _, rfl, rfl, (by show (0 : Int) < 46; decide), _, _, rfl, rfl, _, _, rfl, rfl, (by show (0 : Int) < 94; decide), SOME, _, k3, rfl, rfl, some_line, e3, ?_⟩
    exact ⟨line1000 (by show 3 ≤ 1000; decide), fun l hl => q l k1 k2 k3 _ g1 g2 g3 (Same.upd hl) (hp.upd rfl) hl upd_same⟩
theorem sc__law_names : FnScope ["_law_cell", "_law_big", "_law_odd", "_law_k", "_law_base", "_law_at"] ["_law_cell"] (defScope s__law_names) := ⟨rfl, rfl, rfl, by decide +kernel, rfl, by decide +kernel, by decide +kernel⟩
theorem ok__law_names {f : Addr} {fd : FuncData} (F : Fun K "_law_names" "_law_names" s__law_names f fd) (T : Txt K mg C) : FnOk P w K mg base CX0 1 f fd ["_law_cell"] (spNames) := by
  refine F.ok sc__law_names (fun vs H Q E h => ?_) (fun cdv A outer s H vs Q E hr h => ?_)
  · obtain ⟨c, rfl, _⟩ := h
    rfl
  · obtain ⟨c, rfl, c0, c1, hp, q⟩ := h
    refine ⟨_, (pss_cons (ps_set (i := 1) sc__law_names.nd rfl (Or.inr rfl) pe_str)
      (pss_cons (ps_set (i := 2) sc__law_names.nd rfl (Or.inr rfl) (pe_op op_mod (pv 0) pe_int))
      (pss_cons (ps_set (i := 0) sc__law_names.nd rfl (Or.inl rfl) (pe_op op_fdiv (pv 0) pe_int))
      (pss_cons (ps_if (pt_cmpR op_eq (pe_op op_mod (pv 0) pe_int) pe_int (nomark _)) (pss_one (ps_ret (pe_comp (N := ["_law_k", "_law_big", "_law_odd"]) (ρ := [none, some 1, some 2]) rfl (CompScope.closes ["_law_cell", "_law_big", "_law_odd", "_law_k", "_law_base", "_law_at"] (defScope s__law_names).names rfl rfl rfl rfl (by decide +kernel) (by decide +kernel) (fun x h => cell_has h) (by decide +kernel) rfl (by decide +kernel)) (pi_range1 rfl T.z_range (pa_cons pe_int pa_nil)) (fun _ _ _ _ _ => (pg_name (i := 0) nd_LG__law_k__law_big__law_odd rfl (Or.inl rfl) (.inr rfl))) (fun _ _ _ _ _ => pts_nil) (fun _ _ _ _ _ => (pe_op op_mul_str (pe_ix ix_str (pv 1) (pv 2) (fun _ _ => rfl)) (pe_op op_sub (pe_op op_add (pe_op op_mul pe_int (pv 0)) pe_int) (pe_op op_fdiv (pv 0) pe_int))))))) pss_nil)
      (pss_cons (ps_set (i := 4) sc__law_names.nd rfl (Or.inr rfl) pe_str)
      (pss_cons (ps_for PassesOwn.never rfl (pi_range1 rfl T.z_range (pa_cons (pe_op op_mod (pe_op op_fdiv (pv 0) pe_int) pe_int) pa_nil)) (pg_name (i := 3) sc__law_names.nd rfl (Or.inl rfl)) (pss_one (ps_set (i := 4) sc__law_names.nd rfl (Or.inr rfl) (pe_op op_add_str (pv 4) (pe_ix ix_str (pv 1) (pe_op op_mod (pe_op op_fdiv (pe_op op_mul (pv 0) (pe_op op_add (pv 3) pe_int)) pe_int) pe_int) (fun _ _ => rfl))))))
      (pss_cons (ps_set (i := 5) sc__law_names.nd rfl (Or.inr rfl) (pe_op op_mod (pe_op op_fdiv (pv 0) pe_int) (pe_op op_add (pe_callB call_len_str (by rfl) T.z_len PyProof.Rows.Boot.«len» (pa_cons (pv 4) pa_nil)) pe_int)))
      (pss_one (ps_ret (pe_comp (N := ["_law_k", "_law_at", "_law_base", "_law_big", "_law_odd"]) (ρ := [none, some 5, some 4, some 1, some 2]) rfl (CompScope.closes ["_law_cell", "_law_big", "_law_odd", "_law_k", "_law_base", "_law_at"] (defScope s__law_names).names rfl rfl rfl rfl (by decide +kernel) (by decide +kernel) (fun x h => cell_has h) (by decide +kernel) rfl (by decide +kernel)) (pi_range1 rfl T.z_range (pa_cons pe_int pa_nil)) (fun _ _ _ _ _ => (pg_name (i := 0) nd_LG__law_k__law_at__law_base__law_big__law_odd rfl (Or.inl rfl) (.inr rfl))) (fun _ _ _ _ _ => pts_nil) (fun _ _ _ _ _ => (pe_op op_add_str (pe_op op_add_str (pe_slice sl_str (pv 2) po_none (po_some (pv 1))) (pe_ix ix_str (pv 3) (pe_op op_add (pv 4) (pv 0)) (fun _ _ => rfl))) (pe_slice sl_str (pv 2) (po_some (pv 1)) po_none))))))))))))), ?_⟩
    refine ⟨_, rfl, _, _, rfl, rfl, (by show (0 : Int) < 23; decide), ?_⟩
    refine ⟨_, rfl, _, _, rfl, rfl, ⟨by decide, by decide⟩, ?_⟩
    refine ⟨_, rfl, _, _, rfl, rfl, (by show (0 : Int) < 4; decide), rfl, _, rfl, ite2 (fun h0 => ?_) fun h0 => ?_⟩
    · refine ⟨4, rfl, by decide, by decide, fun l hl => ?_⟩
      refine comp_items (n := 4) 0 (fun k y _ => ∃ z, y = .str z ∧ isNameS z = true) gives_range (fun _ _ _ _ _ h => h) hp hl (by show 0 < 3; decide) (line1000 (by decide)) (fun τ' => ∃ v, τ' = [v, some (.str BIG), some (.int (c % 23))]) ⟨_, rfl⟩ ?_ ?_ ?_
      · rintro τ' v ⟨w, rfl⟩
        exact ⟨v, rfl⟩
      · rintro τ' k x H' R ⟨w, rfl⟩ hτ hit hk hs hp' hlne hR
        have ew : w = some x := by simpa using hτ
        subst ew hit
        obtain ⟨c2, hc2, hm⟩ := atI_some (xs := BIG.cps.toList) (i := c % 23) (by omega) (by rw [big_len]; omega)
        refine ⟨_, rfl, _, rfl, BIG, _, c2, rfl, rfl, big_line, hc2, _, rfl, _, _, rfl, rfl, .inl ⟨by decide, by decide⟩, _, _, rfl, rfl, _, rfl, _, _, rfl, rfl, ⟨by decide, by decide⟩, _, _, rfl, rfl, _, _, rfl, rfl, (by show 1 ≤ 1000; decide), ?_, ?_, hR _ _ (Same.refl _) hp' ⟨_, rfl, name_mul (big_letter hm) ?_ ?_⟩⟩ <;> omega
      · intro ys H' hy hP hs hp' hl'
        obtain ⟨zs, rfl, hz⟩ := strs_items hP
        exact q l zs H' (by rw [List.length_map] at hy; exact hy) hz hs hp' hl hl'
    · refine ⟨_, rfl, _, _, rfl, rfl, ⟨by decide, by decide⟩, _, _, rfl, rfl, (by show (0 : Int) < 8; decide), _, rfl, (in62 (by omega) (by omega)).1, (in62 (by omega) (by omega)).2, ?_⟩
      refine for_range (lo := 0) (n := (c / 23 / 4 % 8).toNat) (fun i σ H2 => H2 = H ∧ ∃ (z : Str) (v : Option V), σ = [some (.int (c / 23)), some (.str BIG), some (.int (c % 23)), v, some (.str z), none] ∧ z.length = i ∧ z.cps.toList.all letter = true) ⟨rfl, _, none, rfl, (by decide +kernel), (by decide +kernel)⟩ ?_ ?_
      · rintro i σ H2 hi ⟨rfl, z, v, rfl, hz, hzl⟩
        have hi8 : i < 8 := by omega
        obtain ⟨c2, hc2, hm⟩ := atI_some (xs := BIG.cps.toList) (i := c / 23 * (0 + (i : Int) + 3) / 7 % 26) (by omega) (by rw [big_len]; omega)
        refine ⟨_, rfl, _, rfl, _, rfl, _, rfl, _, _, rfl, rfl, _, _, rfl, rfl, .inl ⟨by omega, by omega⟩, _, _, rfl, rfl, ⟨by decide, by decide⟩, _, _, rfl, rfl, (by show (0 : Int) < 26; decide), BIG, _, c2, rfl, rfl, big_line, hc2, z, _, rfl, rfl, line1000 (by show z.length + 1 ≤ 1000; omega), ?_⟩
        refine ⟨rfl, z ++ ⟨#[c2]⟩, _, rfl, by rw [slen, hz]; rfl, ?_⟩
        rw [app_list, List.all_append, hzl]
        show (true && [c2].all letter) = true
        rw [List.all_cons, big_letter hm]
        rfl
      · rintro σ H2 ⟨rfl, z, v, rfl, hz, hzl⟩
        have hz7 : z.length ≤ 7 := by omega
        refine ⟨_, rfl, _, _, rfl, rfl, ⟨by decide, by decide⟩, _, rfl, z, rfl, line1000 (by omega), _, _, rfl, rfl, _, _, rfl, rfl, (by show (0 : Int) < (z.length : Int) + 1; omega), ?_⟩
        have a0 : 0 ≤ c / 23 / 32 % ((z.length : Int) + 1) := Int.emod_nonneg _ (by omega)
        have a1 : c / 23 / 32 % ((z.length : Int) + 1) < (z.length : Int) + 1 := Int.emod_lt_of_pos _ (by omega)
        obtain ⟨at_, hat⟩ : ∃ a, a = c / 23 / 32 % ((z.length : Int) + 1) := ⟨_, rfl⟩
        rw [← hat] at a0 a1
        refine ⟨4, rfl, by decide, by decide, fun l hl => ?_⟩
        refine comp_items (n := 4) 0 (fun k y _ => ∃ z, y = .str z ∧ isNameS z = true) gives_range (fun _ _ _ _ _ h => h) hp hl (by show 0 < 5; decide) (line1000 (by decide)) (fun τ' => ∃ v, τ' = [v, some (.int at_), some (.str z), some (.str BIG), some (.int (c % 23))]) ⟨none, by rw [hat]; rfl⟩ ?_ ?_ ?_
        · rintro τ' v ⟨w, rfl⟩
          exact ⟨v, rfl⟩
        · rintro τ' k x H' R ⟨w, rfl⟩ hτ hit hk hs hp' hlne hR
          have ew : w = some x := by simpa using hτ
          subst ew hit
          obtain ⟨c2, hc2, hm⟩ := atI_some (xs := BIG.cps.toList) (i := c % 23 + (0 + (k : Int))) (by omega) (by rw [big_len]; omega)
          have q1 := Txt.slice_le z none (some at_)
          have q2 := Txt.slice_le z (some at_) none
          refine ⟨_, rfl, _, rfl, _, rfl, z, rfl, line1000 (by omega), _, rfl, _, rfl, _, rfl, _, _, rfl, rfl, BIG, _, c2, rfl, rfl, big_line, hc2, _, _, rfl, rfl, line1000 (by show _ + 1 ≤ 1000; omega), _, rfl, _, rfl, _, rfl, z, rfl, line1000 (by omega), _, _, rfl, rfl, line1000 (by rw [slen]; show _ + 1 + _ ≤ 1000; omega), hR _ _ (Same.refl _) hp' ⟨_, rfl, name_cut hz7 hzl (big_letter hm) a0 (by omega)⟩⟩
        · intro ys H' hy hP hs hp' hl'
          obtain ⟨zs, rfl, hz⟩ := strs_items hP
          exact q l zs H' (by rw [List.length_map] at hy; exact hy) hz hs hp' hl hl'
theorem sc__law_worth : FnScope ["_law_cell"] ["_law_cell"] (defScope s__law_worth) := ⟨rfl, rfl, rfl, by decide +kernel, rfl, by decide +kernel, by decide +kernel⟩
theorem ok__law_worth {f : Addr} {fd : FuncData} (F : Fun K "_law_worth" "_law_worth" s__law_worth f fd) (T : Txt K mg C) : FnOk P w K mg base CX0 1 f fd ["_law_cell"] (spWorthL) := by
  refine F.ok sc__law_worth (fun vs H Q E h => ?_) (fun cdv A outer s H vs Q E hr h => ?_)
  · obtain ⟨c, rfl, _⟩ := h
    rfl
  · obtain ⟨c, rfl, q⟩ := h
    refine ⟨_, (pss_cons (ps_if (pt_cmpR op_eq (pe_op op_mod (pv 0) pe_int) pe_int (nomark _)) (pss_one (ps_ret (pe_op op_mod (pe_op op_fdiv (pv 0) pe_int) (pe_op op_add (pe_op op_pow pe_int pe_int) pe_int)))) pss_nil)
      (pss_one (ps_ret (pe_op op_mod (pe_op op_fdiv (pv 0) pe_int) pe_int)))), ?_⟩
    have big : (1000 : Int) ≤ 10 ^ 60 := by decide
    refine ⟨_, rfl, _, _, rfl, rfl, (by show (0 : Int) < 3; decide), rfl, _, rfl, ite2 (fun _ => ?_) fun _ => ?_⟩
    · refine ⟨_, rfl, _, _, rfl, rfl, ⟨by decide, by decide⟩, _, _, rfl, rfl, ⟨by decide, by decide, by decide⟩, _, _, rfl, rfl, _, _, rfl, rfl, (by show (0 : Int) < 10 ^ (60 : Int).toNat + 1; decide), q _ ?_ ?_⟩
      · exact Int.emod_nonneg _ (by decide)
      · exact Int.le_of_lt_add_one (Int.emod_lt_of_pos _ (by decide))
    · refine ⟨_, rfl, _, _, rfl, rfl, ⟨by decide, by decide⟩, _, _, rfl, rfl, (by show (0 : Int) < 4; decide), q _ ?_ ?_⟩
      · show 0 ≤ c / 3 % 4
        omega
      · show c / 3 % 4 ≤ 10 ^ 60
        omega
theorem sc__law_parts : FnScope ["_law_cell", "_law_menu", "_law_most", "_law_size", "_law_parts_here", "_law_k"] ["_law_cell", "_law_menu", "_law_most"] (defScope s__law_parts) := ⟨rfl, rfl, rfl, by decide +kernel, rfl, by decide +kernel, by decide +kernel⟩
theorem ok__law_parts {f : Addr} {fd : FuncData} (F : Fun K "_law_parts" "_law_parts" s__law_parts f fd) (T : Txt K mg C) : FnOk P w K mg base CX0 1 f fd ["_law_cell", "_law_menu", "_law_most"] (spParts) := by
  refine F.ok sc__law_parts (fun vs H Q E h => ?_) (fun cdv A outer s H vs Q E hr h => ?_)
  · obtain ⟨c, m, zs, n, rfl, _⟩ := h
    rfl
  · obtain ⟨c, m, zs, n, rfl, hm, z1, z2, n0, n6, hp, q⟩ := h
    refine ⟨_, (pss_cons (ps_set (i := 3) sc__law_parts.nd rfl (Or.inl rfl) (pe_op op_mod (pv 0) (pe_op op_add (pv 2) pe_int)))
      (pss_cons (ps_set (i := 0) sc__law_parts.nd rfl (Or.inl rfl) (pe_op op_fdiv (pv 0) (pe_op op_add (pv 2) pe_int)))
      (pss_cons (ps_set (i := 4) sc__law_parts.nd rfl (Or.inl rfl) (pe_lst pa_nil))
      (pss_cons (ps_for PassesOwn.never rfl (pi_range1 rfl T.z_range (pa_cons (pv 3) pa_nil)) (pg_name (i := 5) sc__law_parts.nd rfl (Or.inl rfl)) (pss_cons (ps_expr (pe_bmK K rfl PySem.F.plainAttrs_list PySem.F.slot_list_append PySem.F.type_list_append mt_append (pv 4) (pa_cons (pe_ix (ix_listK K rfl) (pv 1) (pe_op op_mod (pv 0) (pe_callB (call_len_seqK K rfl) (by rfl) T.z_len PyProof.Rows.Boot.«len» (pa_cons (pv 1) pa_nil))) (fun _ _ => rfl)) pa_nil)))
      (pss_one (ps_set (i := 0) sc__law_parts.nd rfl (Or.inl rfl) (pe_op op_fdiv (pv 0) (pe_callB (call_len_seqK K rfl) (by rfl) T.z_len PyProof.Rows.Boot.«len» (pa_cons (pv 1) pa_nil)))))))
      (pss_one (ps_ret (pe_callTy (call_tuple_ofK K rfl) (by rfl) T.z_tuple PyProof.Rows.Boot.«tuple» (pa_cons (pv 4) pa_nil)))))))), ?_⟩
    refine ⟨_, rfl, _, rfl, _, _, rfl, rfl, _, _, rfl, rfl, (by show (0 : Int) < n + 1; omega), ?_⟩
    refine ⟨_, rfl, _, rfl, _, _, rfl, rfl, _, _, rfl, rfl, ⟨by omega, by omega⟩, ?_⟩
    have s0 : 0 ≤ c % (n + 1) := Int.emod_nonneg _ (by omega)
    have s1 : c % (n + 1) < n + 1 := Int.emod_lt_of_pos _ (by omega)
    obtain ⟨sz, hsz⟩ : ∃ sz, sz = c % (n + 1) := ⟨_, rfl⟩
    rw [← hsz] at s0 s1
    refine ⟨Nat.zero_le _, fun l hl => ?_⟩
    refine ⟨_, rfl, sz, by rw [hsz], (in62 (by omega) (by omega)).1, (in62 (by omega) (by omega)).2, ?_⟩
    have nml : m ≠ l := ne_of_none hm hl
    refine for_range (lo := 0) (n := sz.toNat) (fun i σ H2 => ∃ (ps : List Str) (x : Int) (v : Option V), H2 = upd H l (.lst (ps.map V.str)) ∧ ps.length = i ∧ (∀ p ∈ ps, p ∈ zs) ∧ σ = [some (.int x), some (.ref m), some (.int n), some (.int sz), some (.ref l), v]) ⟨[], _, none, rfl, rfl, by simp, by rw [hsz]; rfl⟩ ?_ ?_
    · rintro i σ H2 hi ⟨ps, x, v, rfl, hpl, hpm, rfl⟩
      have hm2 : upd H l (.lst (ps.map V.str)) m = some (.lst (zs.map V.str)) := by rw [upd_ne nml]; exact hm
      have hzl : ((zs.map V.str).length : Int) = (zs.length : Int) := by rw [List.length_map]
      obtain ⟨y, hy, hmem⟩ := atI_some (xs := zs.map V.str) (i := x % ((zs.map V.str).length : Int)) (Int.emod_nonneg _ (by omega)) (Int.emod_lt_of_pos _ (by omega))
      obtain ⟨z, hz, rfl⟩ := List.mem_map.mp hmem
      refine ⟨_, rfl, .inl ⟨rfl, _, SqL.of upd_same⟩, _, rfl, _, rfl, _, rfl, m, _, rfl, .inl (SqL.of hm2), _, _, rfl, rfl, (by omega), m, _, _, _, rfl, rfl, SqL.of hm2, hy, l, _, .str z, rfl, rfl, upd_same, ?_, ?_⟩
      · rw [List.length_map]
        exact Nat.lt_of_lt_of_le (show _ < 1000 by omega) (line1000 (Nat.le_refl _))
      · refine ⟨_, rfl, _, rfl, m, zs.map V.str, rfl, .inl (SqL.of ?_), _, _, rfl, rfl, ⟨by show (0 : Int) < ((zs.map V.str).length : Int); omega, by show ((zs.map V.str).length : Int) < 1073741824; omega⟩, ps ++ [z], _, _, ?_, by rw [List.length_append, hpl]; rfl, ?_, rfl⟩
        · rw [upd_upd, upd_ne nml]; exact hm
        · rw [upd_upd, List.map_append]; rfl
        · intro p hp
          rcases List.mem_append.mp hp with h | h
          · exact hpm p h
          · rw [List.mem_singleton.mp h]; exact hz
    · rintro σ H2 ⟨ps, x, v, rfl, hpl, hpm, rfl⟩
      refine ⟨_, rfl, l, _, rfl, .inl ⟨SqL.of upd_same, fun t ht => ?_⟩⟩
      have s2 := Same.upd (o := .lst (ps.map V.str)) hl
      exact q t ps _ (by omega) hpm (s2.trans (Same.upd ht)) ((hp.upd rfl).upd rfl) (s2.free ht) upd_same
end
end FR


set_option linter.all false
set_option maxRecDepth 100000
set_option maxHeartbeats 4000000
namespace FR
open PySem L2
abbrev s__law_grammar : Stmt := top 44
abbrev s__law_shorts : Stmt := top 45
abbrev s__law_open : Stmt := top 46
abbrev s__law_need : Stmt := top 47
abbrev s__law_row : Stmt := top 48
abbrev s__law_read : Stmt := top 49
theorem nd_LSa__law_sign : (["_law_sign"] : List Str).Nodup := by decide +kernel
theorem nd_LSa__law_part : (["_law_part"] : List Str).Nodup := by decide +kernel
theorem cut_strs (ss : List Str) (lo hi : Option Int) : ∃ zs : List Str, cutV (ss.map V.str) lo hi = zs.map V.str ∧ (∀ z ∈ zs, z ∈ ss) ∧ zs.length ≤ ss.length := by
  refine ⟨(ss.drop (HT.sIx (ss.map V.str).length 0 lo)).take (HT.sIx (ss.map V.str).length (ss.map V.str).length hi - HT.sIx (ss.map V.str).length 0 lo), ?_, fun z hz => List.mem_of_mem_drop (List.mem_of_mem_take hz), ?_⟩
  · unfold cutV
    rw [List.map_take, List.map_drop]
  · rw [List.length_take, List.length_drop]
    omega
theorem dens_revB {H : Hp} : ∀ {xs : List V} {ds : List D}, Dens H xs ds → Dens H xs.reverse ds.reverse
  | [], [], _ => .nil
  | [], _ :: _, h => by unfold Dens at h; exact h.elim
  | _ :: _, [], h => by unfold Dens at h; exact h.elim
  | x :: xs, d :: ds, h => by
    unfold Dens at h
    rw [List.reverse_cons, List.reverse_cons]
    exact (dens_revB h.2).append (.cons h.1 .nil)
theorem sign_isQ (c : Nat) : isQ (("'" : Str) ++ ⟨#[c]⟩) = true := by
  rw [isQ_code, sign_cps]
  rfl
theorem cut_takeB (xs : List V) (n : Nat) (h : n ≤ xs.length) : cutV xs none (some (n : Int)) = xs.take n := by
  unfold cutV
  have e2 : HT.sIx xs.length xs.length (some (n : Int)) = min n xs.length := HT.sIx_nat _ _ n
  rw [e2, Nat.min_eq_left h]
  rfl
theorem eqD_nil (bs : List Str) : eqD (.lst (bs.map D.str)) (.lst []) = decide (bs = []) := by
  cases bs with
  | nil => rfl
  | cons b bs => rfl
theorem putS_new {s : Sz} {z : Str} {n : Int} (h : ¬ z ∈ s.map (·.1)) : putS s z n = s ++ [(z, n)] := by
  induction s with
  | nil => rfl
  | cons p s ih =>
    rw [List.map_cons, List.mem_cons, not_or] at h
    unfold putS
    rw [if_neg (fun e => h.1 e.symm), ih h.2]
    rfl
def GramOk (g : Gram) : Prop := g ≠ [] ∧ (∀ r ∈ g, ∃ r' ∈ g, r'.1 = r.1 ∧ (∀ p ∈ r'.2.1, isQ p = true) ∧ r'.2.1.length ≤ 2) ∧ ∃ nm : List Str, nm.length = 4 ∧ (∀ r ∈ g, r.1 ∈ nm ∧ ∀ p ∈ r.2.1, isQ p = false → p ∈ nm) ∧ g.length ≤ 50
def spGram (K : PySem.W.Frag) : Sp := fun vs H Q _ => ∃ (a : Addr) (ns : List Int), vs = [.ref a] ∧ SqL K H a (ns.map V.int) ∧ ns.length ≤ 63 ∧ Plain H ∧
  ∀ l xs g H', okGram g = true → GramOk g → Same H H' → Plain H' → H l = none → H' l = some (.lst xs) → Dens H' xs (g.map ruleD) → Q (.ref l) H'

structure ShOk (g : Gram) (e : Sz) : Prop where
  nd : (e.map (·.1)).Nodup
  at_ : ∀ z v, look e z = some v → ∃ (k : Nat) (r : Rule), v = (k : Int) ∧ g[k]? = some r ∧ r.1 = z ∧ (∀ p ∈ r.2.1, isQ p = true) ∧ r.2.1.length ≤ 2
def spShorts : Sp := fun vs H Q _ => ∃ (l : Addr) (xs : List V) (g : Gram), vs = [.ref l] ∧ H l = some (.lst xs) ∧ Dens H xs (g.map ruleD) ∧ okGram g = true ∧ Plain H ∧
  ∀ d e H', ShOk g e → (∀ r ∈ g, (∀ p ∈ r.2.1, isQ p = true) → r.2.1.length ≤ 2 → r.1 ∈ e.map (·.1)) → Same H H' → Plain H' → H d = none → H' d = some (.dK (szD e)) → Q (.ref d) H'
def spOpen : Sp := fun vs H Q _ => ∃ (l d : Addr) (xs : List V) (g : Gram) (e : Sz) (z : Str), vs = [.ref l, .ref d, .str z] ∧ H l = some (.lst xs) ∧ Dens H xs (g.map ruleD) ∧ okGram g = true ∧ H d = some (.dK (szD e)) ∧ Plain H ∧
  ∀ o H', Same H H' → Plain H' → H o = none → H' o = some (.lst ((openL g e z g.length).map nV)) → Q (.ref o) H'

def needN (ps : List Str) : Nat := (ps.map fun p => if isQ p = true then 1 else 2).sum
def spNeed : Sp := fun vs H Q _ => ∃ (p : Addr) (ps : List Str), vs = [.ref p] ∧ (H p = some (.lst (ps.map V.str)) ∨ H p = some (.tup (ps.map V.str))) ∧ (∀ x ∈ ps, isPartS x = true) ∧ ps.length ≤ 1000 ∧ Plain H ∧
  ∀ H', Same H H' → Plain H' → Q (.int (needN ps : Nat)) H'
theorem need_sum : ∀ ps : List Str, (ps.map fun p => if isQ p = true then (1 : Int) else 2).sum = (needN ps : Int)
  | [] => rfl
  | p :: ps => by
    unfold needN
    rw [List.map_cons, List.map_cons, List.sum_cons, List.sum_cons, need_sum ps]
    unfold needN
    split <;> omega
theorem comp_need {J : It} {H : Hp} {lb : Addr} {ps : List Str} {v : Option V} {Q : VK} (hJ : GivesG J ps.length H fun i x _ => (ps.map V.str)[i]? = some x) (hps : ∀ x ∈ ps, isPartS x = true) (h6 : ps.length ≤ 1000) (pl : Plain H) (hlb : H lb = none)
    (hq : ∀ H', Same H H' → Plain H' → H' lb = some (.lst ((ps.map fun p => if isQ p = true then (1 : Int) else 2).map V.int)) → Q (.ref lb) H') :
    CompOk J (gName 0) tYes (tOp (rI0 fun i j => .int (i + j)) (tC (.int 1)) (tCB (fun xs H Q => (∃ i, xs = [V.int i] ∧ Q (V.int i) H) ∨ ∃ k, xs = [V.bl k] ∧ Q (V.int (if k = true then 1 else 0)) H) (tCons (tOp rNe (tOp rIxS (tVar 0) (tC (.int 0))) (tC (.str "'"))) tNil))) Q lb [v] H := by
  refine comp_fm ps (fun x => some (.int (if isQ x = true then 1 else 2))) hJ pl hlb (line1000 h6) (fun τ' => ∃ v, τ' = [v]) ⟨_, rfl⟩ ?_ ?_
  · rintro τ' k x y H' Q1 Q2 ⟨v, rfl⟩ hx hit hs hp' hQ1 hQ2
    rw [List.getElem?_map, hx] at hit
    cases hit
    obtain ⟨c, hc, hlen, hdec⟩ := part_first (hps x (List.mem_of_getElem? hx))
    refine ⟨_, rfl, x, 0, c, rfl, rfl, line1000 (by omega), hc, rfl, .inr ⟨_, rfl, _, _, rfl, rfl, ?_⟩⟩
    rw [hdec]
    refine hQ1 _ _ _ ⟨_, rfl⟩ (Same.refl _) hp' ?_
    cases isQ x <;> rfl
  · intro H3 s3 p3 h3
    refine hq H3 s3 p3 ?_
    rw [h3, List.map_map, ← List.filterMap_eq_map]
    rfl
section
variable {P : Program} {w : World} {K : PySem.W.Frag} {mg : Str → Option Value} {base : Heap} {C : Adr}
theorem sc__law_grammar : FnScope ["_law_script", "_law_names_here", "_law_signs_here", "_law_way", "_law_heads", "_law_menu", "_law_rules", "_law_k", "_law_cell", "_law_parts_here"] ["_law_script"] (defScope s__law_grammar) := ⟨rfl, rfl, rfl, by decide +kernel, rfl, by decide +kernel, by decide +kernel⟩
theorem ok__law_grammar {f : Addr} {fd : FuncData} (F : Fun K "_law_grammar" "_law_grammar" s__law_grammar f fd) (T : Txt K mg C) (U__law_names : Used P w K mg CX0 1 "_law_names" ["_law_cell"] (spNames)) (U__law_mixed : Used P w K mg CX0 2 "_law_mixed" ["_law_script", "_law_k"] (spMixed K)) (U__law_parts : Used P w K mg CX0 1 "_law_parts" ["_law_cell", "_law_menu", "_law_most"] (spParts)) (U__law_signs : Used P w K mg CX0 1 "_law_signs" ["_law_cell"] (spSigns)) (U__law_worth : Used P w K mg CX0 1 "_law_worth" ["_law_cell"] (spWorthL)) (U__law_cell_at : Used P w K mg CX0 1 "_law_cell_at" ["_law_script", "_law_k"] (spCell K)) : FnOk P w K mg base CX0 3 f fd ["_law_script"] (spGram K) := by
  obtain ⟨f__law_names, fd__law_names, G__law_names, m__law_names, k__law_names, b__law_names⟩ := U__law_names.ok
  obtain ⟨f__law_mixed, fd__law_mixed, G__law_mixed, m__law_mixed, k__law_mixed, b__law_mixed⟩ := U__law_mixed.ok
  obtain ⟨f__law_parts, fd__law_parts, G__law_parts, m__law_parts, k__law_parts, b__law_parts⟩ := U__law_parts.ok
  obtain ⟨f__law_signs, fd__law_signs, G__law_signs, m__law_signs, k__law_signs, b__law_signs⟩ := U__law_signs.ok
  obtain ⟨f__law_worth, fd__law_worth, G__law_worth, m__law_worth, k__law_worth, b__law_worth⟩ := U__law_worth.ok
  obtain ⟨f__law_cell_at, fd__law_cell_at, G__law_cell_at, m__law_cell_at, k__law_cell_at, b__law_cell_at⟩ := U__law_cell_at.ok
  refine F.ok sc__law_grammar (fun vs H Q E h => ?_) (fun cdv A outer s H vs Q E hr h => ?_)
  · obtain ⟨a, ns, rfl, _⟩ := h
    rfl
  · obtain ⟨a, ns, rfl, hS, hn, hp, q⟩ := h
    refine ⟨_, (pss_cons (ps_set (i := 1) sc__law_grammar.nd rfl (Or.inl rfl) (pe_call (G__law_names base) (hr.mono (by decide)) (by rfl) m__law_names k__law_names b__law_names .nil pass0 (pa_cons (pe_call (G__law_mixed base) (hr.mono (by decide)) (by rfl) m__law_mixed k__law_mixed b__law_mixed .nil pass0 (pa_cons (pv 0) (pa_cons pe_int pa_nil))) pa_nil)))
      (pss_cons (ps_setC (N := ["_law_sign"]) (ρ := [none]) (cl := []) (i := 2) sc__law_grammar.nd rfl rfl rfl (CompScope.plain rfl (by decide +kernel) (by decide +kernel) rfl (by simp)) (pi_listK K rfl (pe_call (G__law_signs base) (hr.mono (by decide)) (by rfl) m__law_signs k__law_signs b__law_signs .nil pass0 (pa_cons (pe_call (G__law_mixed base) (hr.mono (by decide)) (by rfl) m__law_mixed k__law_mixed b__law_mixed .nil pass0 (pa_cons (pv 0) (pa_cons pe_int pa_nil))) pa_nil))) (fun _ _ _ _ _ => (pg_name (i := 0) nd_LSa__law_sign rfl (Or.inl rfl) (.inr rfl))) (fun _ _ _ _ _ => pts_nil) (fun _ _ _ _ _ => (pe_op op_add_str pe_str (pv 0))))
      (pss_cons (ps_set (i := 3) sc__law_grammar.nd rfl (Or.inl rfl) (pe_call (G__law_mixed base) (hr.mono (by decide)) (by rfl) m__law_mixed k__law_mixed b__law_mixed .nil pass0 (pa_cons (pv 0) (pa_cons pe_int pa_nil))))
      (pss_cons (ps_set (i := 4) sc__law_grammar.nd rfl (Or.inl rfl) (pe_slice (sl_listK K rfl) (pv 1) po_none (po_some (pe_op op_add pe_int (pe_op op_mod (pv 3) pe_int)))))
      (pss_cons (ps_set (i := 5) sc__law_grammar.nd rfl (Or.inl rfl) (pe_op op_cat (pe_op op_cat (pe_op op_cat (pe_op op_cat (pv 4) (pe_slice (sl_listK K rfl) (pv 2) po_none (po_some pe_int))) (pv 4)) (pv 2)) (pe_slice (sl_listK K rfl) (pv 1) (po_some pe_int) po_none)))
      (pss_cons (ps_set (i := 6) sc__law_grammar.nd rfl (Or.inl rfl) (pe_lst pa_nil))
      (pss_cons (ps_for PassesOwn.never rfl (pi_range1 rfl T.z_range (pa_cons (pe_callB (call_len_seqK K rfl) (by rfl) T.z_len PyProof.Rows.Boot.«len» (pa_cons (pv 4) pa_nil)) pa_nil)) (pg_name (i := 7) sc__law_grammar.nd rfl (Or.inl rfl)) (pss_cons (ps_set (i := 8) sc__law_grammar.nd rfl (Or.inl rfl) (pe_call (G__law_mixed base) (hr.mono (by decide)) (by rfl) m__law_mixed k__law_mixed b__law_mixed .nil pass0 (pa_cons (pv 0) (pa_cons (pe_op op_add pe_int (pv 7)) pa_nil))))
      (pss_one (ps_expr (pe_bmK K rfl PySem.F.plainAttrs_list PySem.F.slot_list_append PySem.F.type_list_append mt_append (pv 6) (pa_cons (pe_tup (pa_cons (pe_ix (ix_listK K rfl) (pv 4) (pv 7) (fun _ _ => rfl)) (pa_cons (pe_call (G__law_parts base) (hr.mono (by decide)) (by rfl) m__law_parts k__law_parts b__law_parts .nil pass0 (pa_cons (pv 8) (pa_cons (pv 2) (pa_cons pe_int pa_nil)))) (pa_cons (pe_call (G__law_worth base) (hr.mono (by decide)) (by rfl) m__law_worth k__law_worth b__law_worth .nil pass0 (pa_cons (pe_call (G__law_cell_at base) (hr.mono (by decide)) (by rfl) m__law_cell_at k__law_cell_at b__law_cell_at .nil pass0 (pa_cons (pv 0) (pa_cons (pe_op op_add pe_int (pv 7)) pa_nil))) pa_nil)) pa_nil)))) pa_nil))))))
      (pss_cons (ps_for PassesOwn.never rfl (pi_range1 rfl T.z_range (pa_cons (pe_op op_add pe_int (pe_op op_mod (pe_op op_fdiv (pv 3) pe_int) pe_int)) pa_nil)) (pg_name (i := 7) sc__law_grammar.nd rfl (Or.inl rfl)) (pss_cons (ps_set (i := 8) sc__law_grammar.nd rfl (Or.inl rfl) (pe_call (G__law_mixed base) (hr.mono (by decide)) (by rfl) m__law_mixed k__law_mixed b__law_mixed .nil pass0 (pa_cons (pv 0) (pa_cons (pe_op op_add pe_int (pv 7)) pa_nil))))
      (pss_cons (ps_set (i := 9) sc__law_grammar.nd rfl (Or.inl rfl) (pe_call (G__law_parts base) (hr.mono (by decide)) (by rfl) m__law_parts k__law_parts b__law_parts .nil pass0 (pa_cons (pe_op op_fdiv (pv 8) pe_int) (pa_cons (pv 5) (pa_cons (pe_op op_add pe_int (pe_op op_mul pe_int (pe_callTy call_int1 (by rfl) T.z_int PyProof.Rows.Boot.«int» (pa_cons (pe_cmpR op_eq (pe_op op_mod (pe_op op_fdiv (pv 3) pe_int) pe_int) pe_int (nomark _)) pa_nil)))) pa_nil)))))
      (pss_one (ps_expr (pe_bmK K rfl PySem.F.plainAttrs_list PySem.F.slot_list_append PySem.F.type_list_append mt_append (pv 6) (pa_cons (pe_tup (pa_cons (pe_ix (ix_listK K rfl) (pv 4) (pe_op op_mod (pe_op op_mod (pv 8) pe_int) (pe_callB (call_len_seqK K rfl) (by rfl) T.z_len PyProof.Rows.Boot.«len» (pa_cons (pv 4) pa_nil))) (fun _ _ => rfl)) (pa_cons (pv 9) (pa_cons (pe_call (G__law_worth base) (hr.mono (by decide)) (by rfl) m__law_worth k__law_worth b__law_worth .nil pass0 (pa_cons (pe_call (G__law_cell_at base) (hr.mono (by decide)) (by rfl) m__law_cell_at k__law_cell_at b__law_cell_at .nil pass0 (pa_cons (pv 0) (pa_cons (pe_op op_add pe_int (pv 7)) pa_nil))) pa_nil)) pa_nil)))) pa_nil)))))))
      (pss_cons (ps_if (pt_cmpR op_eq (pe_op op_mod (pe_op op_fdiv (pv 3) pe_int) pe_int) pe_int (nomark _)) (pss_one (ps_expr (pe_bm0K K rfl PySem.F.plainAttrs_list PySem.F.slot_list_reverse PySem.F.type_list_reverse mt_reverse (pv 6)))) pss_nil)
      (pss_one (ps_ret (pv 6)))))))))))), ?_⟩
    refine ⟨_, rfl, a, ns, 0, rfl, hS, by decide, by decide, fun v0 a0 b0 => ⟨_, rfl, a0, by omega, hp, fun ln nm H1 n4 nN s1 p1 hln h1 => ?_⟩⟩
    refine ⟨_, rfl, a, ns, 1, rfl, s1.seq hS, by decide, by decide, fun v1 _ _ => ⟨_, rfl, p1, fun lg c1 c2 c3 H2 g1 g2 g3 s2 p2 hlg h2 => ⟨lg, rfl, ⟨_, SqL.of h2⟩, fun ls hls => ?_⟩⟩⟩
    refine comp_items (n := 3) 0 (fun k y _ => ∃ z, y = .str z ∧ (isPartS z = true ∧ isQ z = true)) (gives_list (SqL.of (K := K) h2)) (fun _ _ _ _ _ h => h) p2 hls Nat.zero_lt_one (line1000 (by decide)) (fun τ' => 0 < τ'.length) Nat.zero_lt_one (fun τ' v h => by rw [List.length_set]; exact h) ?_ ?_
    · intro τ' k y H' R _ hτ hit hk hs hp' hlne hR
      obtain ⟨c, hc, rfl⟩ : ∃ c : Nat, good c = true ∧ y = .str ⟨#[c]⟩ := by
        have hm := List.mem_of_getElem? hit
        simp only [List.mem_cons, List.not_mem_nil, or_false] at hm
        rcases hm with rfl | rfl | rfl
        · exact ⟨c1, g1, rfl⟩
        · exact ⟨c2, g2, rfl⟩
        · exact ⟨c3, g3, rfl⟩
      exact ⟨_, hτ, "'", _, rfl, rfl, line1000 (by show 1 + 1 ≤ 1000; decide), hR _ _ (Same.refl _) hp' ⟨_, rfl, sign_part hc, sign_isQ c⟩⟩
    intro ys H3 hy hP s3 p3 h3
    obtain ⟨sg, rfl, hsg⟩ := strs_items hP
    have sg3 : sg.length = 3 := by rw [List.length_map] at hy; exact hy
    have s13 := s2.trans s3
    have h13 := s13 _ _ h1
    have s03 := s1.trans s13
    refine ⟨_, rfl, a, ns, 2, rfl, s03.seq hS, by decide, by decide, fun way wa wb => ?_⟩
    obtain ⟨hn', hhn, hn1, hn3⟩ : ∃ n : Nat, 1 + way % 3 = (n : Int) ∧ 1 ≤ n ∧ n ≤ 3 := ⟨(1 + way % 3).toNat, by omega, by omega, by omega⟩
    refine ⟨_, rfl, _, rfl, _, _, rfl, rfl, (show (0 : Int) < 3 by decide), _, _, rfl, rfl, _, rfl, ln, _, rfl, SqL.of h13, fun lh hlh => ?_⟩
    have eh : cutV (nm.map V.str) none (some (1 + way % 3)) = (nm.take hn').map V.str := by rw [hhn, cut_takeB _ _ (by rw [List.length_map]; omega), List.map_take]
    rw [eh]
    obtain ⟨hs, ehs⟩ : ∃ hs, nm.take hn' = hs := ⟨_, rfl⟩
    have hsl : hs.length = hn' := by rw [← ehs, List.length_take]; omega
    have hsn : ∀ z ∈ hs, z ∈ nm := fun z hz => by rw [← ehs] at hz; exact List.mem_of_mem_take hz
    rw [ehs]
    have s4 := Same.upd (o := .lst (hs.map V.str)) hlh
    have h4 : upd H3 lh (.lst (hs.map V.str)) lh = some (.lst (hs.map V.str)) := upd_same
    have p4 : Plain (upd H3 lh (.lst (hs.map V.str))) := p3.upd rfl
    revert s4 h4 p4
    generalize upd H3 lh (.lst (hs.map V.str)) = H4
    intro s4 h4 p4
    have hS4 := (s03.trans s4).seq hS
    have hln4 := s4 _ _ h13
    have hls4 := s4 _ _ h3
    refine ⟨_, rfl, _, rfl, 2, rfl, ls, _, rfl, SqL.of hls4, fun q1 hq1 => ?_⟩
    obtain ⟨z1, ez1, hz1, lz1⟩ := cut_strs sg none (some 2)
    rw [ez1]
    have t1 := Same.upd (o := .lst (z1.map V.str)) hq1
    refine ⟨lh, q1, _, _, rfl, rfl, t1 _ _ h4, upd_same, line1000 (by rw [List.length_map, List.length_map]; omega), fun q2 hq2 => ?_⟩
    rw [← List.map_append]
    have t2 := t1.trans (Same.upd (o := .lst ((hs ++ z1).map V.str)) hq2)
    refine ⟨_, rfl, q2, lh, _, _, rfl, rfl, upd_same, t2 _ _ h4, line1000 (by simp only [List.length_map, List.length_append]; omega), fun q3 hq3 => ?_⟩
    rw [← List.map_append]
    have t3 := t2.trans (Same.upd (o := .lst ((hs ++ z1 ++ hs).map V.str)) hq3)
    refine ⟨_, rfl, q3, ls, _, _, rfl, rfl, upd_same, t3 _ _ hls4, line1000 (by simp only [List.length_map, List.length_append]; omega), fun q4 hq4 => ?_⟩
    rw [← List.map_append]
    have t4 := t3.trans (Same.upd (o := .lst ((hs ++ z1 ++ hs ++ sg).map V.str)) hq4)
    have w4 : ∀ {Hx : Hp}, upd Hx q4 (.lst ((hs ++ z1 ++ hs ++ sg).map V.str)) q4 = some (.lst ((hs ++ z1 ++ hs ++ sg).map V.str)) := upd_same
    refine ⟨_, rfl, 3, rfl, ln, _, rfl, SqL.of (t4 _ _ hln4), fun q5 hq5 => ?_⟩
    obtain ⟨z5, ez5, hz5, lz5⟩ := cut_strs nm (some 3) none
    rw [ez5]
    have u5 := Same.upd (o := .lst (z5.map V.str)) hq5
    have t5 := t4.trans u5
    refine ⟨q4, q5, _, _, rfl, rfl, u5 _ _ w4, upd_same, line1000 (by simp only [List.length_map, List.length_append]; omega), fun lm hlm => ?_⟩
    rw [← List.map_append]
    obtain ⟨menu, hmn⟩ : ∃ M, hs ++ z1 ++ hs ++ sg ++ z5 = M := ⟨_, rfl⟩
    have hm0 : ∀ p ∈ menu, isPartS p = true ∧ (isQ p = false → p ∈ nm) := fun p hp => by
      rw [← hmn] at hp
      rcases List.mem_append.mp hp with hp | hp
      · rcases List.mem_append.mp hp with hp | hp
        · rcases List.mem_append.mp hp with hp | hp
          · rcases List.mem_append.mp hp with hp | hp
            · exact ⟨name_part (nN p (hsn p hp)), fun _ => hsn p hp⟩
            · have := hsg p (hz1 p hp)
              exact ⟨this.1, fun h => by rw [this.2] at h; cases h⟩
          · exact ⟨name_part (nN p (hsn p hp)), fun _ => hsn p hp⟩
        · have := hsg p hp
          exact ⟨this.1, fun h => by rw [this.2] at h; cases h⟩
      · exact ⟨name_part (nN p (hz5 p hp)), fun _ => hz5 p hp⟩
    have hml : 1 ≤ menu.length ∧ menu.length ≤ 100 := by
      rw [← hmn]
      simp only [List.length_append]
      omega
    rw [hmn]
    have s5 := t5.trans (Same.upd (o := .lst (menu.map V.str)) hlm)
    have m5 : ∀ {Hx : Hp}, upd Hx lm (.lst (menu.map V.str)) lm = some (.lst (menu.map V.str)) := upd_same
    obtain ⟨H5, e5⟩ : ∃ H5, upd (upd (upd (upd (upd (upd H4 q1 (.lst (z1.map V.str))) q2 (.lst ((hs ++ z1).map V.str))) q3 (.lst ((hs ++ z1 ++ hs).map V.str))) q4 (.lst ((hs ++ z1 ++ hs ++ sg).map V.str))) q5 (.lst (z5.map V.str))) lm (.lst (menu.map V.str)) = H5 := ⟨_, rfl⟩
    have p5 : Plain H5 := by rw [← e5]; exact (((((p4.upd rfl).upd rfl).upd rfl).upd rfl).upd rfl).upd rfl
    rw [e5] at s5
    have hm5 : H5 lm = some (.lst (menu.map V.str)) := by rw [← e5]; exact m5
    rw [e5]
    have hS5 := s5.seq hS4
    have hls5 := s5 _ _ hls4
    have hlh5 := s5 _ _ h4
    have s05 := (s03.trans s4).trans s5
    clear t1 t2 t3 t4 u5 t5 m5 w4 e5 hlm hq5 hq4 hq3 hq2 hq1
    refine ⟨Nat.zero_le _, fun l hl => ?_⟩
    have sl := Same.upd (o := .lst []) hl
    refine ⟨_, rfl, lh, _, rfl, .inl (SqL.of (sl _ _ hlh5)), (hs.length : Int), by rw [List.length_map], (in62 (by omega) (by omega)).1, (in62 (by omega) (by omega)).2, ?_⟩
    refine for_range (lo := 0) (n := ((hs.length : Nat) : Int).toNat) (fun i σ H6 => ∃ (g : Gram) (xs : List V) (v7 v8 : Option V), σ = [some (.ref a), some (.ref ln), some (.ref ls), some (.int way), some (.ref lh), some (.ref lm), some (.ref l), v7, v8, none] ∧ H6 l = some (.lst xs) ∧ Dens (del H6 l) xs (g.map ruleD) ∧ g.length = i ∧ g.all okRule = true ∧ Same H5 H6 ∧ Plain H6 ∧
        ∀ (j : Nat) r, g[j]? = some r → hs[j]? = some r.1 ∧ (∀ p ∈ r.2.1, isQ p = true) ∧ r.2.1.length ≤ 2)
      ⟨[], [], none, none, rfl, upd_same, .nil, rfl, rfl, sl, p5.upd rfl, (fun j r hr => nomatch hr)⟩ ?_ ?_
    · rintro i σ H6 hi ⟨g, xs, v7, v8, rfl, h6, hds, hgl, hgo, s6, p6, hfc⟩
      have hxl : xs.length = i := by rw [hds.len, List.length_map, hgl]
      have hih : i < hs.length := by omega
      refine ⟨_, rfl, _, rfl, _, _, rfl, rfl, a, ns, _, rfl, s6.seq hS5, by omega, by omega, fun v a1 b1 => ?_⟩
      have hy1 : atI (hs.map V.str) (0 + (i : Int)) = some (.str hs[i]) := by rw [Int.zero_add]; exact atI_nat (by rw [List.getElem?_map, List.getElem?_eq_getElem hih]; rfl)
      refine ⟨_, rfl, .inl ⟨rfl, _, SqL.of h6⟩, _, rfl, _, rfl, lh, _, _, _, rfl, rfl, SqL.of (s6 _ _ hlh5), hy1, ?_⟩
      refine ⟨_, rfl, _, rfl, _, ls, sg, 2, rfl, s6 _ _ hls5, by omega, by omega, by decide, by decide, p6, fun t ps H7 hps hpm s7 p7 ht0 ht => ?_⟩
      refine ⟨_, rfl, _, rfl, _, _, rfl, rfl, a, ns, _, rfl, (s6.trans s7).seq hS5, by omega, fun v2 => ⟨_, rfl, fun wz w0 w1 => ⟨line1000 (by show 3 ≤ 1000; decide), fun tt htt => ?_⟩⟩⟩
      have t8 := Same.upd (o := .tup [.str hs[i], .ref t, .int wz]) htt
      have ntl : tt ≠ l := fun z => by
        have := s7 _ _ h6
        rw [z, this] at htt
        cases htt
      have ntt : t ≠ l := fun z => by
        rw [z, h6] at ht0
        cases ht0
      refine ⟨l, xs, _, rfl, rfl, (s7.trans t8) _ _ h6, Nat.lt_of_lt_of_le (show xs.length < 1000 by omega) (line1000 (Nat.le_refl _)), ?_⟩
      refine ⟨g ++ [(hs[i], ps, wz)], xs ++ [.ref tt], _, _, rfl, upd_same, ?_, by rw [List.length_append, hgl]; rfl, ?_, ((s6.trans s7).trans t8).put hl, (p7.upd rfl).upd rfl, fun j r hr => ?_⟩
      · rw [del_upd, List.map_append]
        refine (hds.same ((s7.trans t8).del l)).append (.cons ?_ .nil)
        refine .tup (show del _ l tt = some _ from ?_) (.cons (.str _) (.cons (.tup (show del _ l t = some _ from ?_) (Dens.strs ps)) (.cons (.int _) .nil)))
        · rw [del_ne ntl]; exact upd_same
        · rw [del_ne ntt]; exact t8 _ _ ht
      · rw [List.all_append, hgo]
        show (true && [((hs[i], ps, wz) : Rule)].all okRule) = true
        rw [List.all_cons, okRule_of (r := (hs[i], ps, wz)) (nN _ (hsn _ (List.getElem_mem hih))) (by show ps.length ≤ 6; omega) (fun p hp => (hsg p (hpm p hp)).1) w0 w1]
        rfl
      · by_cases hj : j < g.length
        · rw [List.getElem?_append_left hj] at hr
          exact hfc j r hr
        · rw [List.getElem?_append_right (by omega)] at hr
          have hj0 : j = i := by
            have := (List.getElem?_eq_some_iff.mp hr).1
            simp only [List.length_cons, List.length_nil] at this
            omega
          subst hj0
          rw [hgl, Nat.sub_self] at hr
          cases hr
          exact ⟨List.getElem?_eq_getElem hih, fun p hp => (hsg p (hpm p hp)).2, by show ps.length ≤ 2; omega⟩
    · rintro σ H6 ⟨g, xs, v7, v8, rfl, h6, hds, hgl, hgo, s6, p6, hfc⟩
      have hgl : g.length = hs.length := by omega
      have hshort : ∀ z ∈ hs, ∃ r ∈ g, r.1 = z ∧ (∀ p ∈ r.2.1, isQ p = true) ∧ r.2.1.length ≤ 2 := fun z hz => by
        obtain ⟨j, hj, ez⟩ := List.mem_iff_getElem.mp hz
        have hjg : j < g.length := by omega
        obtain ⟨e1, e2, e3⟩ := hfc j g[j] (List.getElem?_eq_getElem hjg)
        refine ⟨g[j], List.getElem_mem hjg, ?_, e2, e3⟩
        rw [List.getElem?_eq_getElem hj, ez] at e1
        exact (Option.some.inj e1).symm
      have hgen : ∀ r ∈ g, r.1 ∈ hs ∧ ∀ p ∈ r.2.1, isQ p = false → p ∈ nm := fun r hr => by
        obtain ⟨j, hj, ez⟩ := List.mem_iff_getElem.mp hr
        obtain ⟨e1, e2, e3⟩ := hfc j r (by rw [List.getElem?_eq_getElem hj, ez])
        exact ⟨List.mem_of_getElem? e1, fun p hp h => by rw [e2 p hp] at h; cases h⟩
      obtain ⟨N, hN, N0, N1⟩ : ∃ N : Int, 1 + way / 3 % 4 = N ∧ 0 ≤ N ∧ N ≤ 4 := ⟨_, rfl, by omega, by omega⟩
      refine ⟨_, rfl, _, _, rfl, rfl, ⟨by decide, by decide⟩, _, _, rfl, rfl, (show (0 : Int) < 4 by decide), _, _, rfl, rfl, N, by rw [← hN], (in62 (by omega) (by omega)).1, (in62 (by omega) (by omega)).2, ?_⟩
      refine for_range (lo := 0) (n := N.toNat) (fun i σ H7 => ∃ (g' : Gram) (xs' : List V) (v7 v8 v9 : Option V), σ = [some (.ref a), some (.ref ln), some (.ref ls), some (.int way), some (.ref lh), some (.ref lm), some (.ref l), v7, v8, v9] ∧ H7 l = some (.lst xs') ∧ Dens (del H7 l) xs' (g'.map ruleD) ∧ g'.length = hs.length + i ∧ g'.all okRule = true ∧ Same H5 H7 ∧ Plain H7 ∧
          (∀ r ∈ g, r ∈ g') ∧ ∀ r ∈ g', r.1 ∈ hs ∧ ∀ p ∈ r.2.1, isQ p = false → p ∈ nm)
        ⟨g, xs, _, _, _, rfl, h6, hds, hgl, hgo, s6, p6, (fun r hr => hr), hgen⟩ ?_ ?_
      · rintro i σ H7 hi ⟨g', xs', v7, v8, v9, rfl, h7, hds', hgl', hgo', s7, p7, hsub, hgen'⟩
        have hxl : xs'.length = hs.length + i := by rw [hds'.len, List.length_map, hgl']
        refine ⟨_, rfl, _, rfl, _, _, rfl, rfl, a, ns, _, rfl, s7.seq hS5, by omega, by omega, fun v a1 b1 => ?_⟩
        obtain ⟨mo, emo, mo0, mo1⟩ : ∃ mo : Int, 3 + 3 * (if decide (V.int (way / 24 % 4) = V.int 1) = true then 1 else 0) = mo ∧ 0 ≤ mo ∧ mo ≤ 6 := ⟨_, rfl, by split <;> decide, by split <;> decide⟩
        refine ⟨_, rfl, _, _, rfl, rfl, ⟨by decide, by decide⟩, _, rfl, _, rfl, _, _, rfl, rfl, ⟨by decide, by decide⟩, _, _, rfl, rfl, (show (0 : Int) < 4 by decide), rfl, .inr ⟨_, rfl, _, _, rfl, rfl, .inl ⟨by decide, by decide⟩, _, _, rfl, rfl, v / 3, lm, menu, mo, by rw [← emo]; rfl, s7 _ _ hm5, hml.1, hml.2, mo0, mo1, p7, fun t ps H8 hps hpm s8 p8 ht0 ht => ?_⟩⟩
        obtain ⟨y, hy1, hm1⟩ := atI_some (xs := hs.map V.str) (i := v % 3 % ((hs.map V.str).length : Nat)) (Int.emod_nonneg _ (by rw [List.length_map]; omega)) (Int.emod_lt_of_pos _ (by rw [List.length_map]; omega))
        obtain ⟨hd, hhd, rfl⟩ := List.mem_map.mp hm1
        have sq8 : SqL K H8 lh (hs.map V.str) := SqL.of ((s7.trans s8) _ _ hlh5)
        refine ⟨_, rfl, .inl ⟨rfl, _, SqL.of (s8 _ _ h7)⟩, _, rfl, _, rfl, _, _, rfl, rfl, (show (0 : Int) < 3 by decide), _, rfl, lh, _, rfl, .inl sq8, _, _, rfl, rfl, (by rw [List.length_map]; show (0 : Int) < _; omega), lh, _, _, _, rfl, rfl, sq8, hy1, ?_⟩
        refine ⟨_, rfl, _, rfl, _, rfl, _, _, rfl, rfl, a, ns, _, rfl, (s7.trans s8).seq hS5, by omega, fun v2 => ⟨_, rfl, fun wz w0 w1 => ⟨line1000 (by show 3 ≤ 1000; decide), fun tt htt => ?_⟩⟩⟩
        have t8 := Same.upd (o := .tup [.str hd, .ref t, .int wz]) htt
        have ntl : tt ≠ l := fun z => by
          have := s8 _ _ h7
          rw [z, this] at htt
          cases htt
        have ntt : t ≠ l := fun z => by
          rw [z, h7] at ht0
          cases ht0
        refine ⟨l, xs', _, rfl, rfl, (s8.trans t8) _ _ h7, Nat.lt_of_lt_of_le (show xs'.length < 1000 by omega) (line1000 (Nat.le_refl _)), ?_⟩
        refine ⟨g' ++ [(hd, ps, wz)], xs' ++ [.ref tt], _, _, _, rfl, upd_same, ?_, by rw [List.length_append, hgl']; rfl, ?_, ((s7.trans s8).trans t8).put hl, (p8.upd rfl).upd rfl, fun r hr => List.mem_append_left _ (hsub r hr), fun r hr => ?_⟩
        · rw [del_upd, List.map_append]
          refine (hds'.same ((s8.trans t8).del l)).append (.cons ?_ .nil)
          refine .tup (show del _ l tt = some _ from ?_) (.cons (.str _) (.cons (.tup (show del _ l t = some _ from ?_) (Dens.strs ps)) (.cons (.int _) .nil)))
          · rw [del_ne ntl]; exact upd_same
          · rw [del_ne ntt]; exact t8 _ _ ht
        · rw [List.all_append, hgo']
          show (true && [((hd, ps, wz) : Rule)].all okRule) = true
          rw [List.all_cons, okRule_of (r := (hd, ps, wz)) (nN _ (hsn _ hhd)) (by show ps.length ≤ 6; omega) (fun p hp => (hm0 p (hpm p hp)).1) w0 w1]
          rfl
        · rcases List.mem_append.mp hr with hr | hr
          · exact hgen' r hr
          · rw [List.mem_singleton.mp hr]
            exact ⟨hhd, fun p hp h => (hm0 p (hpm p hp)).2 h⟩
      · rintro σ H7 ⟨g', xs', v7, v8, v9, rfl, h7, hds', hgl', hgo', s7, p7, hsub, hgen'⟩
        have hok : okGram g' = true := by
          unfold okGram
          rw [hgo', Bool.and_true]
          exact decide_eq_true (by omega)
        have hgk : GramOk g' := ⟨fun h => by rw [h] at hgl'; simp only [List.length_nil] at hgl'; omega, fun r hr => by
          obtain ⟨r', hr', q⟩ := hshort r.1 (hgen' r hr).1
          exact ⟨r', hsub r' hr', q⟩, nm, n4, fun r hr => ⟨hsn _ (hgen' r hr).1, (hgen' r hr).2⟩, by omega⟩
        refine ⟨_, rfl, _, _, rfl, rfl, ⟨by decide, by decide⟩, _, _, rfl, rfl, (show (0 : Int) < 2 by decide), rfl, _, rfl, ?_⟩
        refine ite2 (fun _ => ?_) fun _ => ?_
        · refine ⟨_, rfl, .inl ⟨rfl, _, SqL.of h7⟩, l, xs', rfl, rfl, h7, ?_⟩
          refine ⟨_, rfl, q l xs'.reverse g'.reverse _ ?_ ⟨fun h => hgk.1 (List.reverse_eq_nil_iff.mp h), fun r hr => ?_, nm, n4, fun r hr => ⟨hsn _ (hgen' r (List.mem_reverse.mp hr)).1, (hgen' r (List.mem_reverse.mp hr)).2⟩, by rw [List.length_reverse]; omega⟩ ((s05.trans s7).put (s05.free hl)) (p7.upd rfl) (s05.free hl) upd_same ?_⟩
          · unfold okGram at hok ⊢
            rw [Bool.and_eq_true] at hok
            rw [List.length_reverse, List.all_reverse, hok.1, hok.2]
            rfl
          · obtain ⟨r', hr', q⟩ := hgk.2.1 r (List.mem_reverse.mp hr)
            exact ⟨r', List.mem_reverse.mpr hr', q⟩
          · rw [List.map_reverse]
            refine dens_revB (Dens.same ?_ hds')
            intro b o e
            by_cases hb : b = l
            · rw [hb, del_self] at e
              cases e
            · rw [del_ne hb] at e
              rw [upd_ne hb]
              exact e
        · exact ⟨_, rfl, q l xs' g' H7 hok hgk (s05.trans s7) p7 (s05.free hl) h7 (hds'.same (del_same _ _))⟩
theorem sc__law_shorts : FnScope ["_law_grammar_here", "_law_shorts_here", "_law_k", "_law_names_here"] ["_law_grammar_here"] (defScope s__law_shorts) := ⟨rfl, rfl, rfl, by decide +kernel, rfl, by decide +kernel, by decide +kernel⟩
theorem ok__law_shorts {f : Addr} {fd : FuncData} (F : Fun K "_law_shorts" "_law_shorts" s__law_shorts f fd) (T : Txt K mg C) : FnOk P w K mg base CX0 1 f fd ["_law_grammar_here"] (spShorts) := by
  refine F.ok sc__law_shorts (fun vs H Q E h => ?_) (fun cdv A outer s H vs Q E hr h => ?_)
  · obtain ⟨l, xs, g, rfl, _⟩ := h
    rfl
  · obtain ⟨l, xs, g, rfl, hl, hds, hg, hp, q⟩ := h
    have hu := hu_of hr
    have hU := hr.units
    refine ⟨_, (pss_cons (ps_set (i := 1) sc__law_shorts.nd rfl (Or.inl rfl) pe_dnewK)
      (pss_cons (ps_for PassesOwn.never rfl (pi_range1 rfl T.z_range (pa_cons (pe_callB (call_len_seqK K rfl) (by rfl) T.z_len PyProof.Rows.Boot.«len» (pa_cons (pv 0) pa_nil)) pa_nil)) (pg_name (i := 2) sc__law_shorts.nd rfl (Or.inl rfl)) (pss_cons (ps_setC (N := ["_law_part"]) (ρ := [none]) (cl := []) (i := 3) sc__law_shorts.nd rfl rfl rfl (CompScope.plain rfl (by decide +kernel) (by decide +kernel) rfl (by simp)) (pi_tupK K rfl (pe_ix (ix_tupK K rfl) (pe_ix (ix_listK K rfl) (pv 0) (pv 2) (fun _ _ => rfl)) pe_int (fun _ _ => rfl))) (fun _ _ _ _ _ => (pg_name (i := 0) nd_LSa__law_part rfl (Or.inl rfl) (.inr rfl))) (fun _ _ _ _ _ => (pts_one (pt_cmpR op_ne (pe_ix ix_str (pv 0) pe_int (fun _ _ => rfl)) pe_str (nomark _)))) (fun _ _ _ _ _ => (pv 0)))
      (pss_one (ps_if (PW.pt (pw_and (pt_cmpR (op_eq_deep K rfl hU) (pv 3) (pe_lst pa_nil) (nomark _)) (pw_and (pt_cmpR op_lt (pe_callB (call_len_seqK K rfl) (by rfl) T.z_len PyProof.Rows.Boot.«len» (pa_cons (pe_ix (ix_tupK K rfl) (pe_ix (ix_listK K rfl) (pv 0) (pv 2) (fun _ _ => rfl)) pe_int (fun _ _ => rfl)) pa_nil)) pe_int (nomark _)) (pw_and1 (pt_cmp (pc_dnotin hu (pe_ix (ix_tupK K rfl) (pe_ix (ix_listK K rfl) (pv 0) (pv 2) (fun _ _ => rfl)) pe_int (fun _ _ => rfl)) (pv 1))))))) (pss_one (ps_dput hu (pv 1) (pe_ix (ix_tupK K rfl) (pe_ix (ix_listK K rfl) (pv 0) (pv 2) (fun _ _ => rfl)) pe_int (fun _ _ => rfl)) (pv 2) rfl)) pss_nil))))
      (pss_one (ps_ret (pv 1))))), ?_⟩
    have hg60 := gram_60 hg
    have hxl : xs.length = g.length := by rw [hds.len, List.length_map]
    intro d hd
    have s1 := Same.upd (o := .dK []) hd
    refine ⟨_, rfl, l, _, rfl, .inl (SqL.of (s1 _ _ hl)), (xs.length : Int), rfl, (in62 (by omega) (by omega)).1, (in62 (by omega) (by omega)).2, ?_⟩
    refine for_range (lo := 0) (n := ((xs.length : Nat) : Int).toNat) (fun k σ H4 => ∃ (e : Sz) (v2 v3 : Option V), σ = [some (.ref l), some (.ref d), v2, v3] ∧ H4 d = some (.dK (szD e)) ∧ ShOk g e ∧ e.length ≤ k ∧ (∀ j, j < k → ∀ r, g[j]? = some r → (∀ p ∈ r.2.1, isQ p = true) → r.2.1.length ≤ 2 → r.1 ∈ e.map (·.1)) ∧ Same H H4 ∧ Plain H4)
      ⟨[], none, none, rfl, upd_same, ⟨List.nodup_nil, fun z v e => by cases e⟩, Nat.zero_le _, fun j hj => absurd hj (Nat.not_lt_zero _), s1, hp.upd rfl⟩ ?_ ?_
    · rintro k σ H4 hk ⟨e, v2, v3, rfl, hd4, he, hel, hrs, s4, p4⟩
      have hkl : k < g.length := by omega
      obtain ⟨r, er⟩ : ∃ r, g[k]? = some r := ⟨_, List.getElem?_eq_getElem hkl⟩
      obtain ⟨t, pp, ax, ht, hpp⟩ := rule_num (hds.same s4) er
      have ax : atI xs (0 + (k : Int)) = some (.ref t) := by rw [Int.zero_add]; exact ax
      have hok := rule_parts (rule_okB hg er)
      refine ⟨_, rfl, _, rfl, l, _, _, _, rfl, rfl, SqL.of (s4 _ _ hl), ax, t, _, 1, _, rfl, rfl, SqT.of ht, rfl, pp, rfl, ⟨_, SqT.of hpp⟩, fun lb hlb => ?_⟩
      have hJ := (gives_tup (SqT.of (K := K) hpp)).g
      rw [List.length_map] at hJ
      refine comp_fm r.2.1 (fun x => if isQ x = true then none else some (.str x)) hJ p4 hlb (line1000 (by omega)) (fun τ' => ∃ v, τ' = [v]) ⟨_, rfl⟩ ?_ ?_
      · rintro τ' k x y H' Q1 Q2 ⟨v, rfl⟩ hx hit hs hp' hQ1 hQ2
        rw [List.getElem?_map, hx] at hit
        cases hit
        obtain ⟨c, hc, hlen, hdec⟩ := part_first (hok.2 x (List.mem_of_getElem? hx))
        refine ⟨_, rfl, x, 0, c, rfl, rfl, line1000 (by omega), hc, rfl, _, rfl, ?_⟩
        rw [hdec]
        by_cases hq : isQ x = true
        · rw [hq]
          exact hQ2 _ _ ⟨_, rfl⟩ (Same.refl _) hp' (by rw [if_pos hq])
        · rw [Bool.eq_false_iff.mpr hq]
          exact ⟨_, rfl, hQ1 _ _ _ ⟨_, rfl⟩ (Same.refl _) hp' (by rw [if_neg hq])⟩
      intro H5 s5 p5 h5
      have eu : r.2.1.filterMap (fun x => if isQ x = true then none else some (V.str x)) = (unQ r.2.1).map V.str := by
        unfold unQ
        rw [← List.filterMap_eq_map, List.filterMap_filter]
        refine congrArg (fun f => List.filterMap f r.2.1) (funext fun x => ?_)
        cases isQ x <;> rfl
      rw [eu] at h5
      refine ⟨_, rfl, Nat.zero_le _, fun le hle => ?_⟩
      have s6 := Same.upd (o := .lst []) hle
      refine ⟨_, _, .lst (.inl (s6 _ _ h5)) (Dens.strs _), .lst (.inl upd_same) .nil, ok_strs _, rfl, dep_strs _, _, rfl, ?_⟩
      rw [eqD_nil]
      have s46 := s5.trans s6
      have p6 : Plain (upd H5 le (.lst [])) := p5.upd rfl
      revert s46 p6
      generalize upd H5 le (.lst []) = H6
      intro s46 p6
      have s06 := s4.trans s46
      have sql : SqL K H6 l xs := SqL.of (s06 _ _ hl)
      have sqt := SqT.of (K := K) (s46 _ _ ht)
      have skip : ((∀ p ∈ r.2.1, isQ p = true) → r.2.1.length ≤ 2 → r.1 ∈ e.map (·.1)) → ∀ j, j < k + 1 → ∀ r, g[j]? = some r → (∀ p ∈ r.2.1, isQ p = true) → r.2.1.length ≤ 2 → r.1 ∈ e.map (·.1) := fun h j hj r' er' a b => by
        by_cases hjk : j = k
        · subst hjk
          rw [er] at er'
          cases er'
          exact h a b
        · exact hrs j (by omega) r' er' a b
      by_cases hb : unQ r.2.1 = []
      case neg =>
        rw [decide_eq_false hb]
        refine iteF ⟨e, _, _, rfl, s46 _ _ hd4, he, by omega, skip fun a _ => absurd ?_ hb, s06, p6⟩
        unfold unQ
        rw [List.filter_eq_nil_iff]
        intro p hp
        rw [a p hp]
        decide
      rw [decide_eq_true hb]
      have hall : ∀ p ∈ r.2.1, isQ p = true := fun p hp => by
        unfold unQ at hb
        rw [List.filter_eq_nil_iff] at hb
        have := hb p hp
        cases hq : isQ p with
        | true => rfl
        | false => rw [hq] at this; exact absurd rfl this
      refine iteT ⟨_, rfl, _, rfl, l, _, _, _, rfl, rfl, sql, ax, t, _, 1, _, rfl, rfl, sqt, rfl, pp, _, rfl, .inr (SqT.of (s46 _ _ hpp)), _, _, rfl, rfl, _, rfl, ?_⟩
      rw [List.length_map]
      by_cases h3 : r.2.1.length < 3
      case neg =>
        rw [decide_eq_false (by omega)]
        exact iteF ⟨e, _, _, rfl, s46 _ _ hd4, he, by omega, skip fun _ b => by omega, s06, p6⟩
      rw [decide_eq_true (by omega)]
      refine iteT ⟨_, rfl, _, rfl, l, _, _, _, rfl, rfl, sql, ax, t, _, 0, _, rfl, rfl, sqt, rfl, _, rfl, d, _, rfl, DGet.k (k := Sum.inr r.1) (s46 _ _ hd4), _, rfl, ?_⟩
      rw [valV_szD, Option.isSome_map]
      cases hlk : look e r.1 with
      | some v => exact ⟨e, _, _, rfl, s46 _ _ hd4, he, by omega, skip fun _ _ => List.mem_map.mpr ⟨_, look_mem hlk, rfl⟩, s06, p6⟩
      | none =>
        have hnew := look_none hlk
        have len : (szD e).length < sizeLine := by
          unfold szD
          rw [List.length_map]
          exact Nat.lt_of_lt_of_le (show _ < 1000 by omega) (line1000 (Nat.le_refl _))
        have put : DPut H6 d (.str r.1) (.int (0 + (k : Int))) (upd H6 d (.dK (szD (e ++ [(r.1, (k : Int))])))) := by
          have := DPut.k (k := Sum.inr r.1) (v := .int (0 + (k : Int))) (s46 _ _ hd4) len
          rw [put_szD he.nd, putS_new hnew, Int.zero_add] at this
          rw [Int.zero_add]
          exact this
        have elk : ∀ z v, look (e ++ [(r.1, (k : Int))]) z = some v → look e z = some v ∨ (z = r.1 ∧ v = (k : Int)) := fun z v h => by
          have := look_put e r.1 z (k : Int)
          rw [putS_new hnew, h] at this
          split at this
          · rename_i hz
            cases this
            exact .inr ⟨hz, rfl⟩
          · exact .inl this.symm
        refine ⟨_, rfl, _, rfl, _, rfl, _, rfl, l, _, _, _, rfl, rfl, sql, ax, t, _, 0, _, rfl, rfl, sqt, rfl, d, _, rfl, put, e ++ [(r.1, (k : Int))], _, _, rfl, upd_same, ⟨?_, fun z v h => ?_⟩, by rw [List.length_append]; exact Nat.succ_le_succ hel, fun j hj r' er' a b => ?_, s06.put hd, p6.upd rfl⟩
        · rw [List.map_append]
          exact nd_snoc he.nd hnew
        · rcases elk z v h with h | ⟨rfl, rfl⟩
          · exact he.at_ z v h
          · exact ⟨k, r, rfl, er, rfl, hall, by omega⟩
        · rw [List.map_append]
          by_cases hjk : j = k
          · subst hjk
            rw [er] at er'
            cases er'
            exact List.mem_append_right _ (List.mem_singleton.mpr rfl)
          · exact List.mem_append_left _ (hrs j (by omega) r' er' a b)
    · rintro σ H4 ⟨e, v2, v3, rfl, hd4, he, hel, hrs, s4, p4⟩
      refine ⟨_, rfl, q d e H4 he (fun r hr' a b => ?_) s4 p4 hd hd4⟩
      obtain ⟨j, hj, e1⟩ := List.mem_iff_getElem.mp hr'
      exact hrs j (by omega) r (by rw [List.getElem?_eq_getElem hj, e1]) a b
theorem sc__law_need : FnScope ["_law_parts_here"] ["_law_parts_here"] (defScope s__law_need) := ⟨rfl, rfl, rfl, by decide +kernel, rfl, by decide +kernel, by decide +kernel⟩
theorem ok__law_need {f : Addr} {fd : FuncData} (F : Fun K "_law_need" "_law_need" s__law_need f fd) (T : Txt K mg C) : FnOk P w K mg base CX0 1 f fd ["_law_parts_here"] (spNeed) := by
  refine F.ok sc__law_need (fun vs H Q E h => ?_) (fun cdv A outer s H vs Q E hr h => ?_)
  · obtain ⟨p, ps, rfl, _⟩ := h
    rfl
  · obtain ⟨p, ps, rfl, hpp, hps, hpl, hp, q⟩ := h
    rcases hpp with hpp | hpp
    · refine ⟨_, (pss_one (ps_ret (pe_callB (call_sum rfl) (by rfl) T.z_sum PyProof.Rows.Boot.«sum» (pa_cons (pe_comp (N := ["_law_part"]) (ρ := [none]) (cl := []) rfl (CompScope.plain rfl (by decide +kernel) (by decide +kernel) rfl (by simp)) (pi_listK K rfl (pv 0)) (fun _ _ _ _ _ => (pg_name (i := 0) nd_LSa__law_part rfl (Or.inl rfl) (.inr rfl))) (fun _ _ _ _ _ => pts_nil) (fun _ _ _ _ _ => (pe_op op_add pe_int (pe_callTy call_int1 (by rfl) T.z_int PyProof.Rows.Boot.«int» (pa_cons (pe_cmpR op_ne (pe_ix ix_str (pv 0) pe_int (fun _ _ => rfl)) pe_str (nomark _)) pa_nil))))) pa_nil)))), ?_⟩
      refine ⟨_, rfl, p, rfl, ⟨_, SqL.of hpp⟩, fun lb hlb => ?_⟩
      have hJ := (gives_list (SqL.of (K := K) hpp)).g
      rw [List.length_map] at hJ
      refine comp_need hJ hps hpl hp hlb fun H5 s5 p5 h5 => ⟨lb, _, rfl, SqL.of h5, ?_⟩
      rw [need_sum]
      exact q H5 s5 p5
    · refine ⟨_, (pss_one (ps_ret (pe_callB (call_sum rfl) (by rfl) T.z_sum PyProof.Rows.Boot.«sum» (pa_cons (pe_comp (N := ["_law_part"]) (ρ := [none]) (cl := []) rfl (CompScope.plain rfl (by decide +kernel) (by decide +kernel) rfl (by simp)) (pi_tupK K rfl (pv 0)) (fun _ _ _ _ _ => (pg_name (i := 0) nd_LSa__law_part rfl (Or.inl rfl) (.inr rfl))) (fun _ _ _ _ _ => pts_nil) (fun _ _ _ _ _ => (pe_op op_add pe_int (pe_callTy call_int1 (by rfl) T.z_int PyProof.Rows.Boot.«int» (pa_cons (pe_cmpR op_ne (pe_ix ix_str (pv 0) pe_int (fun _ _ => rfl)) pe_str (nomark _)) pa_nil))))) pa_nil)))), ?_⟩
      refine ⟨_, rfl, p, rfl, ⟨_, SqT.of hpp⟩, fun lb hlb => ?_⟩
      have hJ := (gives_tup (SqT.of (K := K) hpp)).g
      rw [List.length_map] at hJ
      refine comp_need hJ hps hpl hp hlb fun H5 s5 p5 h5 => ⟨lb, _, rfl, SqL.of h5, ?_⟩
      rw [need_sum]
      exact q H5 s5 p5
end
end FR


set_option linter.all false
set_option maxRecDepth 100000
set_option maxHeartbeats 4000000
namespace FR
open PySem L2
theorem nd_LS5__law_part__law_shorts_here : (["_law_part", "_law_shorts_here"] : List Str).Nodup := by decide +kernel
theorem nd_LS5__law_k__law_grammar_here__law_left : (["_law_k", "_law_grammar_here", "_law_left"] : List Str).Nodup := by decide +kernel

def barren (e : Sz) (ps : List Str) : List Str := ps.filter fun x => !isQ x && (look e x).isNone
theorem comp_barren {K : PySem.W.Frag} {H : Hp} {p d lb : Addr} {ps : List Str} {e : Sz} {v : Option V} {Q : VK} (hp2 : H p = some (.tup (ps.map V.str))) (hps : ∀ x ∈ ps, isPartS x = true) (h6 : ps.length ≤ 6) (hd : H d = some (.dK (szD e))) (pl : Plain H) (hlb : H lb = none)
    (hq : ∀ H', Same H H' → Plain H' → H' lb = some (.lst ((barren e ps).map V.str)) → Q (.ref lb) H') :
    CompOk (Itt K p) (gName 0) (tAnd (tTest (tOp rNe (tOp rIxS (tVar 0) (tC (.int 0))) (tC (.str "'")))) (tB (tDNotIn (tVar 0) (tVar 1)))) (tVar 0) Q lb [v, some (.ref d)] H := by
  have hJ := (gives_tup (SqT.of (K := K) hp2)).g
  rw [List.length_map] at hJ
  refine comp_fm ps (fun x => if isQ x = true then none else if (look e x).isSome = true then none else some (.str x)) hJ pl hlb (line1000 (Nat.le_trans h6 (by decide))) (fun τ' => ∃ v, τ' = [v, some (.ref d)]) ⟨_, rfl⟩ ?_ ?_
  · rintro τ' k x y H' Q1 Q2 ⟨v, rfl⟩ hx hit hs hp' hQ1 hQ2
    rw [List.getElem?_map, hx] at hit
    cases hit
    obtain ⟨c, hc, hlen, hdec⟩ := part_first (hps x (List.mem_of_getElem? hx))
    refine ⟨_, rfl, x, 0, c, rfl, rfl, line1000 (by omega), hc, rfl, _, rfl, ?_⟩
    rw [hdec]
    by_cases hq : isQ x = true
    · rw [hq]
      exact hQ2 _ _ ⟨_, rfl⟩ (Same.refl _) hp' (by rw [if_pos hq])
    · have hq' : isQ x = false := Bool.eq_false_iff.mpr hq
      rw [hq']
      have ev : (valV (szD e) (Sum.inr x)).isSome = (look e x).isSome := by rw [valV_szD, Option.isSome_map]
      refine ⟨_, rfl, _, rfl, d, _, rfl, DGet.k (k := Sum.inr x) (hs _ _ hd), _, rfl, ?_⟩
      rw [ev]
      cases hlk : look e x with
      | some v => exact hQ2 _ _ ⟨_, rfl⟩ (Same.refl _) hp' (by rw [if_neg hq, hlk]; rfl)
      | none => exact ⟨_, rfl, hQ1 _ _ _ ⟨_, rfl⟩ (Same.refl _) hp' (by rw [if_neg hq, hlk]; rfl)⟩
  · intro H3 s3 p3 h3
    refine hq H3 s3 p3 ?_
    rw [h3]
    unfold barren
    rw [← List.filterMap_eq_map, List.filterMap_filter]
    refine congrArg (fun f => some (HO.lst (List.filterMap f ps))) (funext fun x => ?_)
    cases isQ x <;> cases look e x <;> rfl
theorem openB_iff {g : Gram} {e : Sz} {z : Str} {i : Nat} {r : Rule} (hr : g[i]? = some r) : openB g e z i = (decide (r.1 = z) && decide (barren e r.2.1 = [])) := by
  unfold openB
  rw [hr]
  show (decide (r.1 = z) && _) = _
  congr 1
  rw [Bool.eq_iff_iff, decide_eq_true_eq, List.all_eq_true]
  unfold barren
  rw [List.filter_eq_nil_iff]
  constructor
  · intro h p hp
    have := h p hp
    cases hq : isQ p <;> cases hl : look e p <;> simp [hq, hl] at this ⊢
  · intro h p hp
    have := h p hp
    cases hq : isQ p <;> cases hl : look e p <;> simp [hq, hl] at this ⊢
theorem openL_succ (g : Gram) (e : Sz) (z : Str) (i : Nat) : openL g e z (i + 1) = openL g e z i ++ (if openB g e z i = true then [i] else []) := by
  unfold openL
  rw [List.range_succ, List.filter_append]
  congr 1
  by_cases hb : openB g e z i = true
  · rw [if_pos hb, List.filter_cons, if_pos hb]; rfl
  · rw [if_neg hb, List.filter_cons, if_neg hb]; rfl
theorem seq_rest {t u : TS} {D : Ends} {σ : St} {H : Hp} (M : St → Hp → Prop) (rest : ∀ σ' H', M σ' H' → u D σ' H') (h : (∀ σ' H', M σ' H' → u D σ' H') → t { D with nx := u D } σ H) : tSeq t u D σ H := h rest
theorem rowS_name {g : Gram} {p : Str} {ws : List Str} {ks sg : List Nat} (hq : isQ p = false) (h : RowS g (p :: ws) ks sg) : ∃ k ks' r, ks = k :: ks' ∧ g[k]? = some r ∧ r.1 = p ∧ RowS g (r.2.1 ++ ws) ks' sg := by
  generalize hz : p :: ws = zs at h
  cases h with
  | nil => cases hz
  | sign hq' h => cases hz; rw [hq] at hq'; cases hq'
  | @name r ws' k ks' sg hq' er h => cases hz; exact ⟨k, ks', r, rfl, er, rfl, h⟩
theorem str_snoc (s : List Nat) (c : Nat) : (⟨s.toArray⟩ : Str) ++ ⟨#[c]⟩ = ⟨(s ++ [c]).toArray⟩ := by
  have h := app_list ⟨s.toArray⟩ ⟨#[c]⟩
  cases hj : (⟨s.toArray⟩ : Str) ++ ⟨#[c]⟩
  congr 1
  apply Array.toList_inj.mp
  rw [hj] at h
  rw [h]
theorem needN_app (a b : List Str) : needN (a ++ b) = needN a + needN b := by
  unfold needN
  rw [List.map_append, List.sum_append]
theorem needN_rev (a : List Str) : needN a.reverse = needN a := by
  unfold needN
  rw [List.map_reverse, List.sum_reverse]
theorem needN_sign {p : Str} (h : isQ p = true) : needN [p] = 1 := by
  unfold needN
  rw [List.map_cons, if_pos h]
  rfl
theorem needN_name {p : Str} (h : isQ p = false) : needN [p] = 2 := by
  unfold needN
  rw [List.map_cons, if_neg (by rw [h]; decide)]
  rfl
theorem unQ_le : ∀ a : List Str, (unQ a).length ≤ needN a
  | [] => Nat.le_refl _
  | p :: a => by
    have ih := unQ_le a
    have e : needN (p :: a) = needN [p] + needN a := needN_app [p] a
    unfold unQ at ih ⊢
    rw [e, List.filter_cons]
    cases hq : isQ p with
    | true => rw [needN_sign hq]; simp only [Bool.not_true, Bool.false_eq_true, if_false]; omega
    | false => rw [needN_name hq]; simp only [Bool.not_false, if_true, List.length_cons]; omega
theorem len_need : ∀ a : List Str, a.length ≤ needN a
  | [] => Nat.le_refl _
  | p :: a => by
    have ih := len_need a
    have e : needN (p :: a) = needN [p] + needN a := needN_app [p] a
    rw [e, List.length_cons]
    cases hq : isQ p with
    | true => rw [needN_sign hq]; omega
    | false => rw [needN_name hq]; omega
theorem need_signs : ∀ {a : List Str}, (∀ p ∈ a, isQ p = true) → needN a = a.length ∧ unQ a = []
  | [], _ => ⟨rfl, rfl⟩
  | p :: a, h => by
    obtain ⟨i1, i2⟩ := need_signs (a := a) fun q hq => h q (List.mem_cons_of_mem _ hq)
    have hp := h p (List.mem_cons_self ..)
    have e : needN (p :: a) = needN [p] + needN a := needN_app [p] a
    refine ⟨by rw [e, needN_sign hp, i1, List.length_cons]; omega, ?_⟩
    unfold unQ at i2 ⊢
    rw [List.filter_cons, hp]
    exact i2
theorem unQ_app2 (a b : List Str) : unQ (a ++ b) = unQ a ++ unQ b := by
  unfold unQ
  rw [List.filter_append]
theorem unQ_len1 {p : Str} (h : isQ p = false) : (unQ [p]).length = 1 := by
  unfold unQ
  rw [List.filter_cons, h]
  rfl
theorem unQ_rev (a : List Str) : (unQ a.reverse).length = (unQ a).length := by
  unfold unQ
  rw [List.filter_reverse, List.length_reverse]
theorem dget_szB {H : Hp} {d : Addr} {s : Sz} {z : Str} {v : Int} (hd : H d = some (.dK (szD s))) (h : look s z = some v) : DGet H d (.str z) (some (.int v)) := by
  have := DGet.k (k := Sum.inr z) hd
  rw [valV_szD, h] at this
  exact this
def spRowL (K : PySem.W.Frag) : Sp := fun vs H Q _ => ∃ (l c : Addr) (xs : List V) (g : Gram) (ns : List Int), vs = [.ref l, .ref c, .int 40] ∧ H l = some (.lst xs) ∧ Dens H xs (g.map ruleD) ∧ okGram g = true ∧ GramOk g ∧ SqL K H c (ns.map V.int) ∧ ns.length ≤ 63 ∧ Plain H ∧
  ∀ o r0 rest (ks sg : List Nat) H', g = r0 :: rest → RowS g [r0.1] ks sg → sg.length ≤ 40 → ks.length ≤ 200 → Same H H' → Plain H' → H o = none → H' o = some (.lst (ks.map nV)) → Q (.ref o) H'
def spRead : Sp := fun vs H Q _ => ∃ (l o : Addr) (xs : List V) (g : Gram) (is : List Int), vs = [.ref l, .ref o] ∧ H l = some (.lst xs) ∧ Dens H xs (g.map ruleD) ∧ okGram g = true ∧ H o = some (.lst (is.map V.int)) ∧ is.length ≤ 1000 ∧ Plain H ∧
  (∀ rd H', readG g (is.map D.int) = some rd → Same H H' → Plain H' → Q (.str ⟨rd.sg.toArray⟩) H') ∧ (readG g (is.map D.int) = none → ∀ H', Same H H' → Plain H' → Q .non H')
theorem nextR_no {g : Gram} {is : List Int} {n : Nat} {z : Str} (h : is.length ≤ n) : nextR g (is.map D.int) n z = none := by
  unfold nextR
  rw [List.getElem?_eq_none (by rw [List.length_map]; exact h)]
theorem nextR_at {g : Gram} {is : List Int} {n : Nat} {z : Str} {i : Int} (e : is[n]? = some i) : nextR g (is.map D.int) n z = if 0 ≤ i then (match g[i.toNat]? with
    | some r => if r.1 = z then some (i.toNat, r) else none
    | none => none) else none := by
  unfold nextR
  rw [List.getElem?_map, e]
  rfl
theorem drop_marks (g : Gram) : ∀ (ws : List Wait) (s : Rdg) (ds : List D), ∃ ws' s', fin g ws s ds = fin g ws' s' ds ∧ strip ws' = strip ws ∧ s'.sg = s.sg ∧ s'.bg.length = s.bg.length ∧ ∀ k w, ws' ≠ .inr k :: w
  | [], s, ds => ⟨[], s, rfl, rfl, rfl, rfl, fun k w h => nomatch h⟩
  | .inl p :: ws, s, ds => ⟨.inl p :: ws, s, rfl, rfl, rfl, rfl, fun k w h => by cases h⟩
  | .inr k :: ws, s, ds => by
    obtain ⟨ws', s', e1, e2, e3, e4, e5⟩ := drop_marks g ws ⟨s.sg, s.bg, s.st.set k s.sg.length⟩ ds
    exact ⟨ws', s', by rw [fin_mark]; exact e1, e2, e3, e4, e5⟩
section
variable {P : Program} {w : World} {K : PySem.W.Frag} {mg : Str → Option Value} {base : Heap} {C : Adr}
theorem sc__law_open : FnScope ["_law_grammar_here", "_law_shorts_here", "_law_name", "_law_some", "_law_k", "_law_barren"] ["_law_grammar_here", "_law_shorts_here", "_law_name"] (defScope s__law_open) := ⟨rfl, rfl, rfl, by decide +kernel, rfl, by decide +kernel, by decide +kernel⟩
theorem ok__law_open {f : Addr} {fd : FuncData} (F : Fun K "_law_open" "_law_open" s__law_open f fd) (T : Txt K mg C) : FnOk P w K mg base CX0 1 f fd ["_law_grammar_here", "_law_shorts_here", "_law_name"] (spOpen) := by
  refine F.ok sc__law_open (fun vs H Q E h => ?_) (fun cdv A outer s H vs Q E hr h => ?_)
  · obtain ⟨l, d, xs, g, e, z, rfl, _⟩ := h
    rfl
  · obtain ⟨l, d, xs, g, e, z, rfl, hl, hds, hg, hd, hp, q⟩ := h
    have hu := hu_of hr
    have hU := hr.units
    refine ⟨_, (pss_cons (ps_set (i := 3) sc__law_open.nd rfl (Or.inl rfl) (pe_lst pa_nil))
      (pss_cons (ps_for PassesOwn.never rfl (pi_range1 rfl T.z_range (pa_cons (pe_callB (call_len_seqK K rfl) (by rfl) T.z_len PyProof.Rows.Boot.«len» (pa_cons (pv 0) pa_nil)) pa_nil)) (pg_name (i := 4) sc__law_open.nd rfl (Or.inl rfl)) (pss_cons (ps_setC (N := ["_law_part", "_law_shorts_here"]) (ρ := [none, some 1]) (i := 5) sc__law_open.nd rfl rfl rfl (CompScope.closes ["_law_grammar_here", "_law_shorts_here", "_law_name", "_law_some", "_law_k", "_law_barren"] (defScope s__law_open).names rfl rfl rfl rfl (by decide +kernel) (by decide +kernel) (fun x h => cell_has h) (by decide +kernel) rfl (by decide +kernel)) (pi_tupK K rfl (pe_ix (ix_tupK K rfl) (pe_ix (ix_listK K rfl) (pv 0) (pv 4) (fun _ _ => rfl)) pe_int (fun _ _ => rfl))) (fun _ _ _ _ _ => (pg_name (i := 0) nd_LS5__law_part__law_shorts_here rfl (Or.inl rfl) (.inr rfl))) (fun _ _ _ _ _ => (pts_one (PW.pt (pw_and (pt_cmpR op_ne (pe_ix ix_str (pv 0) pe_int (fun _ _ => rfl)) pe_str (nomark _)) (pw_and1 (pt_cmp (pc_dnotin hu (pv 0) (pv 1)))))))) (fun _ _ _ _ _ => (pv 0)))
      (pss_one (ps_if (PW.pt (pw_and (pt_cmpR op_eq (pe_ix (ix_tupK K rfl) (pe_ix (ix_listK K rfl) (pv 0) (pv 4) (fun _ _ => rfl)) pe_int (fun _ _ => rfl)) (pv 2) (nomark _)) (pw_and1 (pt_cmpR (op_eq_deep K rfl hU) (pv 5) (pe_lst pa_nil) (nomark _))))) (pss_one (ps_expr (pe_bmK K rfl PySem.F.plainAttrs_list PySem.F.slot_list_append PySem.F.type_list_append mt_append (pv 3) (pa_cons (pv 4) pa_nil)))) pss_nil))))
      (pss_one (ps_ret (pv 3))))), ?_⟩
    have hg60 := gram_60 hg
    have hxl : xs.length = g.length := by rw [hds.len, List.length_map]
    refine ⟨Nat.zero_le _, fun lo hlo => ?_⟩
    have s1 := Same.upd (o := .lst []) hlo
    refine ⟨_, rfl, l, _, rfl, .inl (SqL.of (s1 _ _ hl)), (xs.length : Int), rfl, (in62 (by omega) (by omega)).1, (in62 (by omega) (by omega)).2, ?_⟩
    refine for_range (lo := 0) (n := ((xs.length : Nat) : Int).toNat) (fun k σ H4 => ∃ (v4 v5 : Option V), σ = [some (.ref l), some (.ref d), some (.str z), some (.ref lo), v4, v5] ∧ H4 lo = some (.lst ((openL g e z k).map nV)) ∧ Same H H4 ∧ Plain H4)
      ⟨none, none, rfl, upd_same, s1, hp.upd rfl⟩ ?_ ?_
    · rintro k σ H4 hk ⟨v4, v5, rfl, h4, s4, p4⟩
      have hkl : k < xs.length := by omega
      have hi : xs[k]? = some xs[k] := List.getElem?_eq_getElem hkl
      obtain ⟨r, tt, p, er, ey, ht1, hpp⟩ := rule_at hds hi
      have ax : atI xs (0 + (k : Int)) = some (.ref tt) := by rw [Int.zero_add, ← ey]; exact atI_nat hi
      have hok := rule_okB hg er
      have ht4 := s4 _ _ ht1
      have hp4 := s4 _ _ hpp
      have oi := openB_iff (e := e) (z := z) er
      refine ⟨_, rfl, _, rfl, l, _, _, _, rfl, rfl, SqL.of (s4 _ _ hl), ax, tt, _, 1, _, rfl, rfl, SqT.of ht4, rfl, p, rfl, ⟨_, SqT.of hp4⟩, fun lb hlb => ?_⟩
      refine comp_barren hp4 (rule_parts hok).2 (rule_parts hok).1 (s4 _ _ hd) p4 hlb fun H5 s5 p5 h5 => ?_
      refine ⟨_, rfl, _, rfl, l, _, _, _, rfl, rfl, SqL.of ((s4.trans s5) _ _ hl), ax, tt, _, 0, _, rfl, rfl, SqT.of (s5 _ _ ht4), rfl, _, rfl, rfl, _, rfl, ?_⟩
      rw [decS]
      by_cases hz : ¬ r.1 = z
      · rw [decide_eq_false hz]
        rw [decide_eq_false hz, Bool.false_and] at oi
        refine ⟨_, _, rfl, ?_, s4.trans s5, p5⟩
        rw [openL_succ, oi, if_neg (by decide), List.append_nil]
        exact s5 _ _ h4
      have hz : r.1 = z := Decidable.not_not.mp hz
      rw [decide_eq_true hz]
      rw [decide_eq_true hz, Bool.true_and] at oi
      refine iteT ⟨_, rfl, Nat.zero_le _, fun le hle => ?_⟩
      have s6 := Same.upd (o := .lst []) hle
      refine ⟨_, _, .lst (.inl (s6 _ _ h5)) (Dens.strs _), .lst (.inl upd_same) .nil, ok_strs _, rfl, dep_strs _, _, rfl, ?_⟩
      rw [eqD_nil]
      have s46 := s5.trans s6
      by_cases hb : ¬ barren e r.2.1 = []
      · rw [decide_eq_false hb]
        rw [decide_eq_false hb] at oi
        refine ⟨_, _, rfl, ?_, s4.trans s46, p5.upd rfl⟩
        rw [openL_succ, oi, if_neg (by decide), List.append_nil]
        exact s46 _ _ h4
      · have hb : barren e r.2.1 = [] := Decidable.not_not.mp hb
        rw [decide_eq_true hb]
        rw [decide_eq_true hb] at oi
        have hlen : (openL g e z k).length ≤ k := by
          unfold openL
          exact Nat.le_trans (List.length_filter_le _ _) (by rw [List.length_range]; exact Nat.le_refl _)
        refine iteT ⟨_, rfl, .inl ⟨rfl, _, SqL.of (s46 _ _ h4)⟩, _, rfl, lo, _, _, rfl, rfl, s46 _ _ h4, ?_, _, _, rfl, ?_, (s4.trans s46).put hlo, (p5.upd rfl).upd rfl⟩
        · rw [List.length_map]
          exact Nat.lt_of_lt_of_le (show _ < 1000 by omega) (line1000 (Nat.le_refl _))
        · rw [openL_succ, oi, if_pos rfl, List.map_append]
          show upd _ lo _ lo = some (.lst (_ ++ [V.int (k : Int)]))
          rw [upd_same, Int.zero_add]
    · rintro σ H4 ⟨v4, v5, rfl, h4, s4, p4⟩
      refine ⟨_, rfl, q lo H4 s4 p4 hlo ?_⟩
      rw [h4]
      have : ((xs.length : Nat) : Int).toNat = g.length := by omega
      rw [this]
theorem sc__law_row : FnScope ["_law_grammar_here", "_law_cells", "_law_room", "_law_shorts_here", "_law_waiting", "_law_row_here", "_law_held", "_law_part", "_law_number", "_law_left", "_law_some", "_law_beneath"] ["_law_grammar_here", "_law_cells", "_law_room"] (defScope s__law_row) := ⟨rfl, rfl, rfl, by decide +kernel, rfl, by decide +kernel, by decide +kernel⟩
theorem ok__law_row {f : Addr} {fd : FuncData} (F : Fun K "_law_row" "_law_row" s__law_row f fd) (T : Txt K mg C) (U__law_shorts : Used P w K mg CX0 1 "_law_shorts" ["_law_grammar_here"] (spShorts)) (U__law_need : Used P w K mg CX0 1 "_law_need" ["_law_parts_here"] (spNeed)) (U__law_open : Used P w K mg CX0 1 "_law_open" ["_law_grammar_here", "_law_shorts_here", "_law_name"] (spOpen)) : FnOk P w K mg base CX0 2 f fd ["_law_grammar_here", "_law_cells", "_law_room"] (spRowL K) := by
  obtain ⟨f__law_shorts, fd__law_shorts, G__law_shorts, m__law_shorts, k__law_shorts, b__law_shorts⟩ := U__law_shorts.ok
  obtain ⟨f__law_need, fd__law_need, G__law_need, m__law_need, k__law_need, b__law_need⟩ := U__law_need.ok
  obtain ⟨f__law_open, fd__law_open, G__law_open, m__law_open, k__law_open, b__law_open⟩ := U__law_open.ok
  refine F.ok sc__law_row (fun vs H Q E h => ?_) (fun cdv A outer s H vs Q E hr h => ?_)
  · obtain ⟨l, c, xs, g, ns, rfl, _⟩ := h
    rfl
  · obtain ⟨l, c, xs, g, ns, rfl, hl, hds, hg, hgk, hS, hns, hp, q⟩ := h
    have hu := hu_of hr
    have hU := hr.units
    refine ⟨_, (pss_cons (ps_set (i := 3) sc__law_row.nd rfl (Or.inl rfl) (pe_call (G__law_shorts base) (hr.mono (by decide)) (by rfl) m__law_shorts k__law_shorts b__law_shorts .nil pass0 (pa_cons (pv 0) pa_nil)))
      (pss_cons (ps_set (i := 4) sc__law_row.nd rfl (Or.inl rfl) (pe_lst (pa_cons (pe_ix (ix_tupK K rfl) (pe_ix (ix_listK K rfl) (pv 0) pe_int (fun _ _ => rfl)) pe_int (fun _ _ => rfl)) pa_nil)))
      (pss_cons (ps_set (i := 5) sc__law_row.nd rfl (Or.inl rfl) (pe_lst pa_nil))
      (pss_cons (ps_set (i := 6) sc__law_row.nd rfl (Or.inl rfl) pe_int)
      (pss_cons (ps_while PassesOwn.never (pt_cmpR (op_ne_deep K rfl hU) (pv 4) (pe_lst pa_nil) (nomark _)) (pss_cons (ps_set (i := 7) sc__law_row.nd rfl (Or.inl rfl) (pe_bm0K K rfl PySem.F.plainAttrs_list PySem.F.slot_list_pop PySem.F.type_list_pop mt_pop (pv 4)))
      (pss_one (ps_if (pt_cmpR op_eq (pe_ix ix_str (pv 7) pe_int (fun _ _ => rfl)) pe_str (nomark _)) (pss_one (ps_set (i := 6) sc__law_row.nd rfl (Or.inl rfl) (pe_op op_add (pv 6) pe_int))) (pss_cons (ps_set (i := 8) sc__law_row.nd rfl (Or.inl rfl) (pe_dget hu (pv 3) (pv 7) (fun _ _ => rfl)))
      (pss_cons (ps_if (pt_cmpR op_lt (pe_callB (call_len_seqK K rfl) (by rfl) T.z_len PyProof.Rows.Boot.«len» (pa_cons (pv 5) pa_nil)) (pe_callB (call_len_seqK K rfl) (by rfl) T.z_len PyProof.Rows.Boot.«len» (pa_cons (pv 1) pa_nil)) (nomark _)) (pss_cons (ps_set (i := 9) sc__law_row.nd rfl (Or.inr rfl) (pe_op op_sub (pe_op op_sub (pv 2) (pv 6)) (pe_call (G__law_need base) (hr.mono (by decide)) (by rfl) m__law_need k__law_need b__law_need .nil pass0 (pa_cons (pv 4) pa_nil))))
      (pss_cons (ps_setC (N := ["_law_k", "_law_grammar_here", "_law_left"]) (ρ := [none, some 0, some 9]) (i := 10) sc__law_row.nd rfl rfl rfl (CompScope.closes ["_law_grammar_here", "_law_cells", "_law_room", "_law_shorts_here", "_law_waiting", "_law_row_here", "_law_held", "_law_part", "_law_number", "_law_left", "_law_some", "_law_beneath"] (defScope s__law_row).names rfl rfl rfl rfl (by decide +kernel) (by decide +kernel) (fun x h => cell_has h) (by decide +kernel) rfl (by decide +kernel)) (pi_listK K rfl (pe_call (G__law_open base) (hr.mono (by decide)) (by rfl) m__law_open k__law_open b__law_open .nil pass0 (pa_cons (pv 0) (pa_cons (pv 3) (pa_cons (pv 7) pa_nil))))) (fun _ _ _ _ _ => (pg_name (i := 0) nd_LS5__law_k__law_grammar_here__law_left rfl (Or.inl rfl) (.inr rfl))) (fun _ _ _ _ _ => (pts_one (pt_cmpR op_le (pe_call (G__law_need base) (hr.mono (by decide)) (by rfl) m__law_need k__law_need b__law_need .nil pass0 (pa_cons (pe_ix (ix_tupK K rfl) (pe_ix (ix_listK K rfl) (pv 1) (pv 0) (fun _ _ => rfl)) pe_int (fun _ _ => rfl)) pa_nil)) (pv 2) (nomark _)))) (fun _ _ _ _ _ => (pv 0)))
      (pss_one (ps_set (i := 8) sc__law_row.nd rfl (Or.inl rfl) (pe_ix (ix_listK K rfl) (pv 10) (pe_op op_mod (pe_ix (ix_listK K rfl) (pv 1) (pe_callB (call_len_seqK K rfl) (by rfl) T.z_len PyProof.Rows.Boot.«len» (pa_cons (pv 5) pa_nil)) (fun _ _ => rfl)) (pe_callB (call_len_seqK K rfl) (by rfl) T.z_len PyProof.Rows.Boot.«len» (pa_cons (pv 10) pa_nil))) (fun _ _ => rfl)))))) pss_nil)
      (pss_cons (ps_expr (pe_bmK K rfl PySem.F.plainAttrs_list PySem.F.slot_list_append PySem.F.type_list_append mt_append (pv 5) (pa_cons (pv 8) pa_nil)))
      (pss_one (ps_for PassesOwn.never rfl (pi_revT K rfl rfl T.z_reversed (pa_cons (pe_ix (ix_tupK K rfl) (pe_ix (ix_listK K rfl) (pv 0) (pv 8) (fun _ _ => rfl)) pe_int (fun _ _ => rfl)) pa_nil)) (pg_name (i := 11) sc__law_row.nd rfl (Or.inl rfl)) (pss_one (ps_expr (pe_bmK K rfl PySem.F.plainAttrs_list PySem.F.slot_list_append PySem.F.type_list_append mt_append (pv 4) (pa_cons (pv 11) pa_nil)))))))))))))
      (pss_one (ps_ret (pv 5)))))))), ?_⟩
    obtain ⟨hgne, hgsh, nm, n4, hgnm, _⟩ := hgk
    obtain ⟨r0, rest, eg⟩ : ∃ r0 rest, g = r0 :: rest := by
      cases g with
      | nil => exact absurd rfl hgne
      | cons a b => exact ⟨a, b, rfl⟩
    have er0 : g[0]? = some r0 := by rw [eg]; rfl
    have hxl : xs.length = g.length := by rw [hds.len, List.length_map]
    refine ⟨_, rfl, l, xs, g, rfl, hl, hds, hg, hp, fun d e H1 he hcomp s1 p1 hd0 hd => ?_⟩
    have hkeys : ∀ r ∈ g, r.1 ∈ e.map (·.1) := fun r hr' => by
      obtain ⟨r', hr2, e1, e2, e3⟩ := hgsh r hr'
      rw [← e1]
      exact hcomp r' hr2 e2 e3
    obtain ⟨t0, p0, ax0, ht0, _⟩ := rule_num (hds.same s1) er0
    refine ⟨_, rfl, l, _, 0, _, rfl, rfl, SqL.of (s1 _ _ hl), ax0, t0, _, 0, _, rfl, rfl, SqT.of ht0, rfl, line1000 (by show 1 ≤ 1000; decide), fun lw hlw => ?_⟩
    refine ⟨Nat.zero_le _, fun lr hlr => ?_⟩
    have hlw0 : H lw = none := s1.free hlw
    have s2 := Same.upd (o := .lst [V.str r0.1]) hlw
    have hlr0 : H lr = none := s1.free (s2.free hlr)
    have nrw : lr ≠ lw := fun z => by rw [z, upd_same] at hlr; cases hlr
    have s3 := Same.upd (o := .lst []) hlr
    have hw4 : upd (upd H1 lw (.lst [V.str r0.1])) lr (.lst []) lw = some (.lst ([r0.1].map V.str)) := s3 _ _ upd_same
    have hr4 : upd (upd H1 lw (.lst [V.str r0.1])) lr (.lst []) lr = some (.lst (([] : List Nat).map nV)) := upd_same
    have p4 : Plain (upd (upd H1 lw (.lst [V.str r0.1])) lr (.lst [])) := (p1.upd rfl).upd rfl
    have s4 := s2.trans s3
    have hd4 := s4 _ _ hd
    have s04 := s1.trans s4
    revert hw4 hr4 p4 s4 hd4 s04
    generalize upd (upd H1 lw (.lst [V.str r0.1])) lr (.lst []) = H4
    intro hw4 hr4 p4 s4 hd4 s04
    have dlw : d ≠ lw := fun z => by rw [z] at hd; rw [hd] at hlw; cases hlw
    have dlr : d ≠ lr := fun z => by rw [← z, s2 _ _ hd] at hlr; cases hlr
    have hname0 := rule_head (rule_okB hg er0)
    refine ⟨fun μ σ H5 => ∃ (ks : List Nat) (zs : List Str) (sg : List Nat) (v7 v8 v9 v10 v11 : Option V), σ = [some (.ref l), some (.ref c), some (.int 40), some (.ref d), some (.ref lw), some (.ref lr), some (.int (sg.length : Int)), v7, v8, v9, v10, v11] ∧ H5 lw = some (.lst (zs.map V.str)) ∧ H5 lr = some (.lst (ks.map nV)) ∧ H5 d = some (.dK (szD e)) ∧ (∀ z ∈ zs, isPartS z = true ∧ (isQ z = false → z ∈ e.map (·.1))) ∧
        (∀ ks' sg', RowS g zs.reverse ks' sg' → RowS g [r0.1] (ks ++ ks') (sg ++ sg')) ∧ sg.length + needN zs ≤ 40 ∧ (unQ zs).length + ks.length ≤ ns.length + 40 ∧ μ = (ns.length - ks.length) * 200 + (needN zs + (unQ zs).length) ∧ Same H H5 ∧ Plain H5,
      ⟨_, [], [r0.1], [], none, none, none, none, none, rfl, hw4, hr4, hd4, fun z hz => ?_, fun ks' sg' h => h, ?_, ?_, rfl, s04, p4⟩, ?_⟩
    · rw [List.mem_singleton.mp hz]
      exact ⟨name_partB hname0, fun _ => hkeys r0 (List.mem_of_getElem? er0)⟩
    · rw [needN_name (name_noQ hname0)]
      decide
    · rw [unQ_len1 (name_noQ hname0)]
      show 1 + 0 ≤ _
      omega
    rintro μ σ H5 ⟨ks, zs, sg, v7, v8, v9, v10, v11, rfl, hw5, hr5, hd5, hzs, hrow, hneed, hcnt, hμ, s5, p5⟩
    refine ⟨_, rfl, Nat.zero_le _, fun le hle => ?_⟩
    have s6 := Same.upd (o := .lst []) hle
    refine ⟨_, _, .lst (.inl (s6 _ _ hw5)) (Dens.strs zs), .lst (.inl upd_same) .nil, ok_strs _, rfl, dep_strs _, _, rfl, ?_⟩
    rw [eqD_nil]
    have hw6 := s6 _ _ hw5
    have hr6 := s6 _ _ hr5
    have hd6 := s6 _ _ hd5
    have s06 := s5.trans s6
    have p6 : Plain (upd H5 le (.lst [])) := p5.upd rfl
    revert hw6 hr6 hd6 s06 p6
    generalize upd H5 le (.lst []) = H6
    intro hw6 hr6 hd6 s06 p6
    rcases List.eq_nil_or_concat zs with hz | ⟨zs', z, hz⟩
    · subst hz
      rw [decide_eq_true rfl]
      refine iteF ⟨_, rfl, q lr r0 rest ks sg H6 eg ?_ (by omega) (by omega) s06 p6 hlr0 hr6⟩
      have := hrow [] [] .nil
      rw [List.append_nil, List.append_nil] at this
      exact this
    rw [List.concat_eq_append] at hz
    subst hz
    rw [decide_eq_false (by simp)]
    refine iteT ⟨_, fun _ _ h => h, ?_⟩
    have elast : ((zs' ++ [z]).map V.str)[((zs' ++ [z]).map V.str).length - 1]? = some (.str z) := by
      rw [List.map_append, List.length_append]
      show (_ ++ [V.str z])[_ + 1 - 1]? = _
      rw [Nat.add_sub_cancel, List.getElem?_append_right (Nat.le_refl _), Nat.sub_self]
      rfl
    have edrop : ((zs' ++ [z]).map V.str).dropLast = zs'.map V.str := by rw [List.map_append]; exact List.dropLast_concat
    refine ⟨_, rfl, .inl ⟨rfl, _, SqL.of hw6⟩, lw, _, _, rfl, rfl, hw6, elast, ?_⟩
    rw [edrop]
    have s07 : Same H (upd H6 lw (.lst (zs'.map V.str))) := s06.put hlw0
    have w7 : upd H6 lw (.lst (zs'.map V.str)) lw = some (.lst (zs'.map V.str)) := upd_same
    have r7 : upd H6 lw (.lst (zs'.map V.str)) lr = some (.lst (ks.map nV)) := by rw [upd_ne nrw]; exact hr6
    have d7 : upd H6 lw (.lst (zs'.map V.str)) d = some (.dK (szD e)) := by rw [upd_ne dlw]; exact hd6
    have p7 : Plain (upd H6 lw (.lst (zs'.map V.str))) := p6.upd rfl
    revert s07 w7 r7 d7 p7
    generalize upd H6 lw (.lst (zs'.map V.str)) = H7
    intro s07 w7 r7 d7 p7
    obtain ⟨hzp, hzk⟩ := hzs z (List.mem_append_right _ (List.mem_singleton.mpr rfl))
    have hzs' : ∀ x ∈ zs', isPartS x = true ∧ (isQ x = false → x ∈ e.map (·.1)) := fun x hx => hzs x (List.mem_append_left _ hx)
    rw [needN_app] at hneed hμ
    rw [unQ_app2, List.length_append] at hcnt hμ
    rw [List.reverse_append] at hrow
    have hrow : ∀ ks' sg', RowS g (z :: zs'.reverse) ks' sg' → RowS g [r0.1] (ks ++ ks') (sg ++ sg') := hrow
    obtain ⟨ch, hc, hlz, hdec⟩ := part_first hzp
    refine ⟨_, rfl, z, 0, ch, rfl, rfl, line1000 (by omega), hc, rfl, _, rfl, ?_⟩
    rw [hdec]
    by_cases hq : isQ z = true
    · rw [hq]
      rw [needN_sign hq] at hneed hμ
      have ei : (sg.length : Int) + 1 = ((sg ++ [sgn z]).length : Int) := by rw [List.length_append]; rfl
      refine ⟨_, rfl, _, _, rfl, rfl, ?_⟩
      refine ⟨_, ?_, ks, zs', sg ++ [sgn z], _, _, _, _, _, by rw [← ei]; rfl, w7, r7, d7, hzs', fun ks' sg' h => ?_, by rw [List.length_append]; show sg.length + 1 + _ ≤ _; omega, by omega, rfl, s07, p7⟩
      · rw [hμ]
        omega
      · have := hrow ks' (sgn z :: sg') (.sign hq h)
        rw [List.append_assoc]
        exact this
    · have hq' : isQ z = false := Bool.eq_false_iff.mpr hq
      rw [hq']
      rw [needN_name hq'] at hneed hμ
      rw [unQ_len1 hq'] at hcnt hμ
      obtain ⟨k0, hk0⟩ := look_some (hzk hq')
      obtain ⟨kk, rs, rfl, ers, ezs, hall, h2⟩ := he.at_ z k0 hk0
      refine ⟨_, rfl, _, rfl, d, .int (kk : Int), rfl, dget_szB d7 hk0, ?_⟩
      have hns' := need_signs hall
      dsimp only [gName]
      refine seq_rest (t := tIfS _ _ _) (fun σ' H' => ∃ (k : Nat) (r : Rule) (v9 v10 : Option V), σ' = [some (.ref l), some (.ref c), some (.int 40), some (.ref d), some (.ref lw), some (.ref lr), some (.int (sg.length : Int)), some (.str z), some (.int (k : Int)), v9, v10, v11] ∧ g[k]? = some r ∧ r.1 = z ∧ (∀ p ∈ r.2.1, isQ p = false → p ∈ e.map (·.1)) ∧ sg.length + needN zs' + needN r.2.1 ≤ 40 ∧ (ks.length < ns.length ∨ (needN r.2.1 ≤ 2 ∧ unQ r.2.1 = [])) ∧ Same H7 H' ∧ Plain H') ?_ fun rest' => ?_
      · rintro σ H8 ⟨k, r, v9, v10, rfl, er, erz, hpk, hrn, hor, s8, p8⟩
        have hok := rule_parts (rule_okB hg er)
        obtain ⟨t, pp, ax, ht, hpp⟩ := rule_num ((hds.same s07).same s8) er
        refine ⟨_, rfl, .inl ⟨rfl, _, SqL.of (s8 _ _ r7)⟩, _, rfl, lr, _, _, rfl, rfl, s8 _ _ r7, by rw [List.length_map, sizeLine_eq]; omega, ?_⟩
        have er9 : ks.map nV ++ [V.int (k : Int)] = (ks ++ [k]).map nV := by rw [List.map_append]; rfl
        rw [er9]
        have s9 : Same H (upd H8 lr (.lst ((ks ++ [k]).map nV))) := (s07.trans s8).put hlr0
        have w9 : upd H8 lr (.lst ((ks ++ [k]).map nV)) lw = some (.lst (zs'.map V.str)) := by rw [upd_ne nrw.symm]; exact s8 _ _ w7
        have r9 : upd H8 lr (.lst ((ks ++ [k]).map nV)) lr = some (.lst ((ks ++ [k]).map nV)) := upd_same
        have d9 : upd H8 lr (.lst ((ks ++ [k]).map nV)) d = some (.dK (szD e)) := by rw [upd_ne dlr]; exact s8 _ _ d7
        have p9 : Plain (upd H8 lr (.lst ((ks ++ [k]).map nV))) := p8.upd rfl
        have ht9 : upd H8 lr (.lst ((ks ++ [k]).map nV)) t = some (.tup [.str r.1, .ref pp, .int r.2.2]) := by
          rw [upd_ne (fun z => by rw [z, s8 _ _ r7] at ht; cases ht)]
          exact ht
        have hp9 : upd H8 lr (.lst ((ks ++ [k]).map nV)) pp = some (.tup (r.2.1.map V.str)) := by
          rw [upd_ne (fun z => by rw [z, s8 _ _ r7] at hpp; cases hpp)]
          exact hpp
        revert s9 w9 r9 d9 p9 ht9 hp9
        generalize upd H8 lr (.lst ((ks ++ [k]).map nV)) = H9
        intro s9 w9 r9 d9 p9 ht9 hp9
        refine ⟨_, rfl, _, rfl, l, _, _, _, rfl, rfl, SqL.of (s9 _ _ hl), ax, t, _, 1, _, rfl, rfl, SqT.of ht9, rfl, pp, _, rfl, SqT.of hp9, ?_⟩
        have h6 := hok.1
        have hlz' := len_need zs'
        have npw : pp ≠ lw := fun z => by rw [z, w9] at hp9; cases hp9
        refine for_revT (K := K) (a := pp) (xs := r.2.1.map V.str) (fun i σ H6 => ∃ v11, σ = [some (.ref l), some (.ref c), some (.int 40), some (.ref d), some (.ref lw), some (.ref lr), some (.int (sg.length : Int)), some (.str z), some (.int (k : Int)), v9, v10, v11] ∧ H6 lw = some (.lst ((zs' ++ r.2.1.reverse.take i).map V.str)) ∧ H6 lr = some (.lst ((ks ++ [k]).map nV)) ∧ H6 d = some (.dK (szD e)) ∧ H6 pp = some (.tup (r.2.1.map V.str)) ∧ Same H H6 ∧ Plain H6)
          ⟨v11, rfl, by rw [List.take_zero, List.append_nil]; exact w9, r9, d9, hp9, s9, p9⟩ ?_ ?_ ?_
        · rintro i σ Hx _ ⟨_, rfl, _, _, _, hpx, _, _⟩
          exact SqT.of hpx
        · rintro i y σ Hx hi ⟨v11, rfl, wx, rx, dx, hpx, sx, px⟩
          rw [← List.map_reverse, List.getElem?_map] at hi
          cases ex : r.2.1.reverse[i]? with
          | none => rw [ex] at hi; cases hi
          | some x =>
            rw [ex] at hi
            cases hi
            have et : r.2.1.reverse.take (i + 1) = r.2.1.reverse.take i ++ [x] := by rw [List.take_add_one, ex]; rfl
            refine ⟨_, rfl, .inl ⟨rfl, _, SqL.of wx⟩, _, rfl, lw, _, _, rfl, rfl, wx, by rw [List.length_map, List.length_append, List.length_take, List.length_reverse, sizeLine_eq]; omega, _, rfl, ?_, by rw [upd_ne nrw]; exact rx, by rw [upd_ne dlw]; exact dx, by rw [upd_ne npw]; exact hpx, sx.put hlw0, px.upd rfl⟩
            rw [upd_same, et, ← List.append_assoc, List.map_append (l₂ := [x])]
            rfl
        · rintro σ Hx ⟨v11, rfl, wx, rx, dx, hpx, sx, px⟩
          have eall : r.2.1.reverse.take (r.2.1.map V.str).length = r.2.1.reverse := by rw [List.length_map, ← List.length_reverse (as := r.2.1), List.take_length]
          rw [eall] at wx
          have hun := unQ_le (zs' ++ r.2.1.reverse)
          have hun' := unQ_le r.2.1
          rw [needN_app, needN_rev] at hun
          have eu : (unQ (zs' ++ r.2.1.reverse)).length = (unQ zs').length + (unQ r.2.1).length := by rw [unQ_app2, List.length_append, unQ_rev]
          have en2 : needN (zs' ++ r.2.1.reverse) = needN zs' + needN r.2.1 := by rw [needN_app, needN_rev]
          have ekl : (ks ++ [k]).length = ks.length + 1 := by rw [List.length_append]; rfl
          refine ⟨_, ?_, ks ++ [k], zs' ++ r.2.1.reverse, sg, _, _, _, _, _, rfl, wx, rx, dx, fun x hx => ?_, fun ks' sg' h => ?_, by omega, ?_, rfl, sx, px⟩
          · rw [hμ, en2, eu, ekl]
            rcases hor with hor | ⟨ho1, ho2⟩
            · have : (ns.length - ks.length) * 200 = (ns.length - (ks.length + 1)) * 200 + 200 := by omega
              omega
            · rw [ho2]
              show _ + (_ + ((unQ zs').length + 0)) < _
              omega
          · rcases List.mem_append.mp hx with hx | hx
            · exact hzs' x hx
            · exact ⟨hok.2 x (List.mem_reverse.mp hx), hpk x (List.mem_reverse.mp hx)⟩
          · rw [List.reverse_append, List.reverse_reverse] at h
            have := hrow (k :: ks') sg' (by rw [← erz]; exact .name (by rw [erz]; exact hq') er h)
            rw [List.append_assoc]
            exact this
          · rw [eu, ekl]
            rcases hor with hor | ⟨ho1, ho2⟩
            · omega
            · rw [ho2]
              show (unQ zs').length + 0 + _ ≤ _
              omega
      · refine ⟨_, rfl, lr, _, rfl, .inl (SqL.of r7), _, rfl, c, _, rfl, .inl (s07.seq hS), _, _, rfl, rfl, _, rfl, ?_⟩
        rw [List.length_map, List.length_map]
        by_cases hcl : ks.length < ns.length
        case neg =>
          rw [decide_eq_false (by omega)]
          refine iteF (rest' _ _ ⟨kk, rs, _, _, rfl, ers, ezs, (fun p hp h => by rw [hall p hp] at h; cases h), by rw [hns'.1]; omega, .inr ⟨by rw [hns'.1]; exact h2, hns'.2⟩, Same.refl _, p7⟩)
        rw [decide_eq_true (by omega)]
        refine iteT ⟨_, rfl, _, rfl, _, _, rfl, rfl, _, rfl, lw, zs', rfl, .inl w7, fun x hx => (hzs' x hx).1, ?_, p7, fun H8 s8 p8 => ⟨_, _, rfl, rfl, ?_⟩⟩
        · have := len_need zs'
          omega
        have s08 := s07.trans s8
        refine ⟨_, rfl, _, rfl, _, rfl, l, d, xs, g, e, z, rfl, s08 _ _ hl, hds.same s08, hg, s8 _ _ d7, p8, fun o H9 s9 p9 ho0 ho => ⟨o, rfl, ⟨_, SqL.of ho⟩, fun lo hlo => ?_⟩⟩
        have s09 := s08.trans s9
        obtain ⟨L, eL⟩ : ∃ L, openL g e z g.length = L := ⟨_, rfl⟩
        rw [eL] at ho
        have hL : ∀ k ∈ L, ∃ r, g[k]? = some r ∧ r.1 = z ∧ InK e r := fun k hk => openL_mem (by rw [eL]; exact hk)
        have hJ := (gives_list (SqL.of (K := K) ho)).g
        rw [List.length_map] at hJ
        have hLl : L.length ≤ 1000 := by
          rw [← eL]
          unfold openL
          refine Nat.le_trans (List.length_filter_le _ _) ?_
          rw [List.length_range]
          have := gram_60 hg
          omega
        obtain ⟨fit, hfit⟩ : ∃ fit : Nat → Bool, ∀ k r, g[k]? = some r → fit k = decide (((needN r.2.1 : Nat) : Int) ≤ 40 - (sg.length : Int) - (needN zs' : Nat)) := ⟨fun k => match g[k]? with
          | some r => decide (((needN r.2.1 : Nat) : Int) ≤ 40 - (sg.length : Int) - (needN zs' : Nat))
          | none => false, fun k r h => by simp only [h]⟩
        refine comp_fm L (fun k => if fit k = true then some (nV k) else none) hJ p9 hlo (line1000 hLl) (fun τ' => ∃ v, τ' = [v, some (.ref l), some (.int (40 - (sg.length : Int) - (needN zs' : Nat)))]) ⟨_, rfl⟩ ?_ ?_
        · rintro τ' i k y H' Q1 Q2 ⟨v, rfl⟩ hx hit hs hp' hQ1 hQ2
          rw [List.getElem?_map, hx] at hit
          cases hit
          obtain ⟨r, er, _, _⟩ := hL k (List.mem_of_getElem? hx)
          have hok := rule_parts (rule_okB hg er)
          obtain ⟨t, pp, ax, ht, hpp⟩ := rule_num ((hds.same s09).same hs) er
          refine ⟨_, rfl, _, rfl, l, _, _, _, rfl, rfl, SqL.of ((s09.trans hs) _ _ hl), ax, t, _, 1, _, rfl, rfl, SqT.of ht, rfl, pp, r.2.1, rfl, .inr hpp, hok.2, by omega, hp', fun H10 s10 p10 => ⟨_, rfl, _, _, rfl, rfl, _, rfl, ?_⟩⟩
          rw [← hfit k r er]
          by_cases hf : fit k = true
          · rw [hf]
            exact ⟨_, rfl, hQ1 _ _ _ ⟨_, rfl⟩ s10 p10 (by rw [if_pos hf])⟩
          · rw [Bool.eq_false_iff.mpr hf]
            exact hQ2 _ _ ⟨_, rfl⟩ s10 p10 (by rw [if_neg hf])
        intro H10 s10 p10 h10
        have efm : L.filterMap (fun k => if fit k = true then some (nV k) else none) = (L.filter fit).map nV := by
          rw [← List.filterMap_eq_map, List.filterMap_filter]
          rfl
        rw [efm] at h10
        obtain ⟨M, eM⟩ : ∃ M, L.filter fit = M := ⟨_, rfl⟩
        rw [eM] at h10
        have hkkM : kk ∈ M := by
          rw [← eM, List.mem_filter]
          refine ⟨by rw [← eL]; exact openL_of ers ezs (fun p hp h => by rw [hall p hp] at h; cases h), ?_⟩
          rw [hfit kk rs ers, hns'.1]
          exact decide_eq_true (by omega)
        have hMl : 0 < M.length := List.length_pos_of_mem hkkM
        have s010 := s09.trans s10
        have sqM : SqL K H10 lo (M.map nV) := SqL.of h10
        have sqr : SqL K H10 lr (ks.map nV) := SqL.of ((s8.trans (s9.trans s10)) _ _ r7)
        have ac : atI (ns.map V.int) ((ks.map nV).length : Nat) = some (.int ns[ks.length]) := by
          rw [List.length_map]
          exact atI_nat (by rw [List.getElem?_map, List.getElem?_eq_getElem hcl]; rfl)
        obtain ⟨y, hy, hym⟩ := atI_some (xs := M.map nV) (i := ns[ks.length] % ((M.map nV).length : Nat)) (Int.emod_nonneg _ (by rw [List.length_map]; omega)) (Int.emod_lt_of_pos _ (by rw [List.length_map]; omega))
        obtain ⟨k, hkM, rfl⟩ := List.mem_map.mp hym
        rw [← eM, List.mem_filter] at hkM
        obtain ⟨r, er, erz, hin⟩ := hL k hkM.1
        have hf := hkM.2
        rw [hfit k r er] at hf
        have hf := of_decide_eq_true hf
        refine ⟨_, rfl, _, rfl, _, rfl, lr, _, rfl, .inl sqr, c, _, _, _, rfl, rfl, s010.seq hS, ac, _, rfl, lo, _, rfl, .inl sqM, _, _, rfl, rfl, (by rw [List.length_map]; show (0 : Int) < _; omega), lo, _, _, _, rfl, rfl, sqM, hy, ?_⟩
        exact rest' _ _ ⟨k, r, _, _, rfl, er, erz, hin, by omega, .inl hcl, s8.trans (s9.trans s10), p10⟩
theorem sc__law_read : FnScope ["_law_grammar_here", "_law_row_here", "_law_waiting", "_law_signs_here", "_law_at", "_law_part", "_law_beneath"] ["_law_grammar_here", "_law_row_here"] (defScope s__law_read) := ⟨rfl, rfl, rfl, by decide +kernel, rfl, by decide +kernel, by decide +kernel⟩
theorem ok__law_read {f : Addr} {fd : FuncData} (F : Fun K "_law_read" "_law_read" s__law_read f fd) (T : Txt K mg C) : FnOk P w K mg base CX0 1 f fd ["_law_grammar_here", "_law_row_here"] (spRead) := by
  refine F.ok sc__law_read (fun vs H Q E h => ?_) (fun cdv A outer s H vs Q E hr h => ?_)
  · obtain ⟨l, o, xs, g, is, rfl, _⟩ := h
    rfl
  · obtain ⟨l, o, xs, g, is, rfl, hl, hds, hg, ho, hkl, hp, qS, qN⟩ := h
    have hU := hr.units
    refine ⟨_, (pss_cons (ps_if (pt_cmpR (op_eq_deep K rfl hU) (pv 0) (pe_lst pa_nil) (nomark _)) (pss_one (ps_ret pe_non)) pss_nil)
      (pss_cons (ps_set (i := 2) sc__law_read.nd rfl (Or.inl rfl) (pe_lst (pa_cons (pe_ix (ix_tupK K rfl) (pe_ix (ix_listK K rfl) (pv 0) pe_int (fun _ _ => rfl)) pe_int (fun _ _ => rfl)) pa_nil)))
      (pss_cons (ps_set (i := 3) sc__law_read.nd rfl (Or.inl rfl) pe_str)
      (pss_cons (ps_set (i := 4) sc__law_read.nd rfl (Or.inl rfl) pe_int)
      (pss_cons (ps_while PassesOwn.never (pt_cmpR (op_ne_deep K rfl hU) (pv 2) (pe_lst pa_nil) (nomark _)) (pss_cons (ps_set (i := 5) sc__law_read.nd rfl (Or.inl rfl) (pe_bm0K K rfl PySem.F.plainAttrs_list PySem.F.slot_list_pop PySem.F.type_list_pop mt_pop (pv 2)))
      (pss_one (ps_if (pt_cmpR op_eq (pe_ix ix_str (pv 5) pe_int (fun _ _ => rfl)) pe_str (nomark _)) (pss_one (ps_set (i := 3) sc__law_read.nd rfl (Or.inl rfl) (pe_op op_add_str (pv 3) (pe_ix ix_str (pv 5) pe_int (fun _ _ => rfl))))) (pss_cons (ps_if (PW.pt (pw_or (pt_cmpR op_ge (pv 4) (pe_callB (call_len_seqK K rfl) (by rfl) T.z_len PyProof.Rows.Boot.«len» (pa_cons (pv 1) pa_nil)) (nomark _)) (pw_or (pt_not (pt_chain op_le op_lt pe_int (pe_ix (ix_listK K rfl) (pv 1) (pv 4) (fun _ _ => rfl)) (pe_callB (call_len_seqK K rfl) (by rfl) T.z_len PyProof.Rows.Boot.«len» (pa_cons (pv 0) pa_nil)))) (pw_or1 (pt_cmpR op_ne (pe_ix (ix_tupK K rfl) (pe_ix (ix_listK K rfl) (pv 0) (pe_ix (ix_listK K rfl) (pv 1) (pv 4) (fun _ _ => rfl)) (fun _ _ => rfl)) pe_int (fun _ _ => rfl)) (pv 5) (nomark _)))))) (pss_one (ps_ret pe_non)) pss_nil)
      (pss_cons (ps_for PassesOwn.never rfl (pi_revT K rfl rfl T.z_reversed (pa_cons (pe_ix (ix_tupK K rfl) (pe_ix (ix_listK K rfl) (pv 0) (pe_ix (ix_listK K rfl) (pv 1) (pv 4) (fun _ _ => rfl)) (fun _ _ => rfl)) pe_int (fun _ _ => rfl)) pa_nil)) (pg_name (i := 6) sc__law_read.nd rfl (Or.inl rfl)) (pss_one (ps_expr (pe_bmK K rfl PySem.F.plainAttrs_list PySem.F.slot_list_append PySem.F.type_list_append mt_append (pv 2) (pa_cons (pv 6) pa_nil)))))
      (pss_one (ps_set (i := 4) sc__law_read.nd rfl (Or.inl rfl) (pe_op op_add (pv 4) pe_int)))))))))
      (pss_cons (ps_if (pt_cmpR op_lt (pv 4) (pe_callB (call_len_seqK K rfl) (by rfl) T.z_len PyProof.Rows.Boot.«len» (pa_cons (pv 1) pa_nil)) (nomark _)) (pss_one (ps_ret pe_non)) pss_nil)
      (pss_one (ps_ret (pv 3))))))))), ?_⟩
    have hxl : xs.length = g.length := by rw [hds.len, List.length_map]
    refine ⟨_, rfl, Nat.zero_le _, fun le hle => ?_⟩
    have s1 := Same.upd (o := .lst []) hle
    refine ⟨gramD g, .lst [], .lst (.inl (s1 _ _ hl)) (hds.same s1), .lst (.inl upd_same) .nil, ok_gram _, rfl, dep_gram _, _, rfl, ?_⟩
    have p1 : Plain (upd H le (.lst [])) := hp.upd rfl
    revert s1 p1
    generalize upd H le (.lst []) = H1
    intro s1 p1
    cases g with
    | nil => exact iteT (qN rfl H1 s1 p1)
    | cons r0 rest =>
    refine iteF ?_
    have hpart0 : isPartS r0.1 = true := name_partB (rule_head (rule_okB hg (i := 0) rfl))
    have hg0 : (r0 :: rest)[0]? = some r0 := rfl
    have est : readG (r0 :: rest) (is.map D.int) = fin (r0 :: rest) [.inl r0.1] ⟨[], [], []⟩ (is.map D.int) := by
      unfold readG
      rw [if_neg (fun h => nomatch h)]
      rfl
    obtain ⟨g, eg⟩ : ∃ g, r0 :: rest = g := ⟨_, rfl⟩
    rw [eg] at hds hg hxl hg0 est qS qN
    obtain ⟨R, eR⟩ : ∃ R, readG g (is.map D.int) = R := ⟨_, rfl⟩
    rw [eR] at est qS qN
    obtain ⟨t0, p0, ax0, ht0, _⟩ := rule_num hds hg0
    refine ⟨_, rfl, l, _, 0, _, rfl, rfl, SqL.of (s1 _ _ hl), ax0, t0, _, 0, _, rfl, rfl, SqT.of (s1 _ _ ht0), rfl, line1000 (by show 1 ≤ 1000; decide), fun lw hlw => ?_⟩
    have hlw0 : H lw = none := s1.free hlw
    have s2 := s1.trans (Same.upd (o := .lst [.str r0.1]) hlw)
    have w2 : upd H1 lw (.lst [.str r0.1]) lw = some (.lst ([r0.1].map V.str)) := upd_same
    have p2 : Plain (upd H1 lw (.lst [.str r0.1])) := p1.upd rfl
    revert s2 w2 p2
    generalize upd H1 lw (.lst [.str r0.1]) = H2
    intro s2 w2 p2
    have e0 : (("" : Str)) = ⟨([] : List Nat).toArray⟩ := by decide +kernel
    rw [e0]
    refine ⟨fun μ σ H3 => ∃ (zs : List Str) (s1 : List Nat) (at_ : Nat) (v5 v6 : Option V), σ = [some (.ref l), some (.ref o), some (.ref lw), some (.str ⟨s1.toArray⟩), some (.int (at_ : Int)), v5, v6] ∧ H3 lw = some (.lst (zs.map V.str)) ∧ (∀ x ∈ zs, isPartS x = true) ∧ (∃ ws s, strip ws = zs.reverse ∧ s.sg = s1 ∧ fin g ws s ((is.map D.int).drop at_) = R) ∧ at_ ≤ is.length ∧ s1.length + zs.length ≤ 1 + 6 * at_ ∧ μ = 7 * (is.length - at_) + zs.length ∧ Same H H3 ∧ Plain H3,
      ⟨_, [r0.1], [], 0, none, none, rfl, w2, fun x hx => by rw [List.mem_singleton.mp hx]; exact hpart0, ⟨[.inl r0.1], ⟨[], [], []⟩, rfl, rfl, est.symm⟩, Nat.zero_le _, (show 0 + 1 ≤ 1 by decide), rfl, s2, p2⟩, ?_⟩
    rintro μ σ H3 ⟨zs, c1, at_, v5, v6, rfl, w3, hz3, ⟨ws0, s0, est0, esg0, efin0⟩, hat, hlen3, hμ, s3, p3⟩
    obtain ⟨ws, sr, ef1, ef2, ef3, _, ef4⟩ := drop_marks g ws0 s0 ((is.map D.int).drop at_)
    rw [ef1] at efin0
    rw [est0] at ef2
    rw [esg0] at ef3
    clear ef1 est0 esg0
    refine ⟨_, rfl, Nat.zero_le _, fun le2 hle2 => ?_⟩
    have s4 := Same.upd (o := .lst []) hle2
    refine ⟨_, _, .lst (.inl (s4 _ _ w3)) (Dens.strs zs), .lst (.inl upd_same) .nil, ok_strs _, rfl, dep_strs _, _, rfl, ?_⟩
    rw [eqD_nil]
    have w4 := s4 _ _ w3
    have s04 := s3.trans s4
    have p4 : Plain (upd H3 le2 (.lst [])) := p3.upd rfl
    revert w4 s04 p4
    generalize upd H3 le2 (.lst []) = H4
    intro w4 s04 p4
    have hil : (is.map V.int).length = is.length := List.length_map ..
    rcases List.eq_nil_or_concat zs with hz | ⟨zs', z, hz⟩
    · subst hz
      rw [decide_eq_true rfl]
      refine iteF ?_
      have ews : ws = [] := by
        match ws, ef2, ef4 with
        | [], _, _ => rfl
        | .inl p :: w, e, _ => cases e
        | .inr k :: w, _, h => exact absurd rfl (h k w)
      subst ews
      refine ⟨_, rfl, _, rfl, o, _, rfl, .inl (SqL.of (s04 _ _ ho)), _, _, rfl, rfl, _, rfl, ?_⟩
      by_cases hend : at_ < is.length
      · rw [decide_eq_true (by omega)]
        have : (is.map D.int).drop at_ = D.int is[at_] :: (is.map D.int).drop (at_ + 1) := by
          rw [List.drop_eq_getElem_cons (by rw [List.length_map]; exact hend), List.getElem_map]
        rw [this, fin_nil1] at efin0
        exact iteT (qN efin0.symm H4 s04 p4)
      · rw [decide_eq_false (by omega)]
        have : (is.map D.int).drop at_ = [] := List.drop_eq_nil_iff.mpr (by rw [List.length_map]; omega)
        rw [this, fin_nil0] at efin0
        have hq := qS sr H4 efin0.symm s04 p4
        rw [ef3] at hq
        exact iteF ⟨_, rfl, hq⟩
    rw [List.concat_eq_append] at hz
    subst hz
    rw [decide_eq_false (by simp)]
    refine iteT ⟨_, fun _ _ h => h, ?_⟩
    have elast : ((zs' ++ [z]).map V.str)[((zs' ++ [z]).map V.str).length - 1]? = some (.str z) := by
      rw [List.map_append, List.length_append]
      show (_ ++ [V.str z])[_ + 1 - 1]? = _
      rw [Nat.add_sub_cancel, List.getElem?_append_right (Nat.le_refl _), Nat.sub_self]
      rfl
    have edrop : ((zs' ++ [z]).map V.str).dropLast = zs'.map V.str := by rw [List.map_append]; exact List.dropLast_concat
    refine ⟨_, rfl, .inl ⟨rfl, _, SqL.of w4⟩, lw, _, _, rfl, rfl, w4, elast, ?_⟩
    rw [edrop]
    have s05 : Same H (upd H4 lw (.lst (zs'.map V.str))) := s04.put hlw0
    have w5 : upd H4 lw (.lst (zs'.map V.str)) lw = some (.lst (zs'.map V.str)) := upd_same
    have p5 : Plain (upd H4 lw (.lst (zs'.map V.str))) := p4.upd rfl
    revert s05 w5 p5
    generalize upd H4 lw (.lst (zs'.map V.str)) = H5
    intro s05 w5 p5
    have hzp := hz3 z (List.mem_append_right _ (List.mem_singleton.mpr rfl))
    have hzs' : ∀ x ∈ zs', isPartS x = true := fun x hx => hz3 x (List.mem_append_left _ hx)
    rw [List.length_append] at hlen3 hμ
    have hlen3 : c1.length + (zs'.length + 1) ≤ 1 + 6 * at_ := hlen3
    have hμ : μ = 7 * (is.length - at_) + (zs'.length + 1) := hμ
    rw [List.reverse_append] at ef2
    have ef2 : strip ws = z :: zs'.reverse := ef2
    obtain ⟨wr, rfl, ewr⟩ : ∃ wr, ws = .inl z :: wr ∧ strip wr = zs'.reverse := by
      match ws, ef2, ef4 with
      | [], e, _ => cases e
      | .inl p :: w, e, _ =>
        have e : p :: strip w = z :: zs'.reverse := e
        exact ⟨w, by rw [(List.cons.inj e).1], (List.cons.inj e).2⟩
      | .inr k :: w, _, h => exact absurd rfl (h k w)
    clear ef2 ef4
    obtain ⟨c, hc, hlz, hdec⟩ := part_first hzp
    refine ⟨_, rfl, z, 0, c, rfl, rfl, line1000 (by omega), hc, rfl, _, rfl, ?_⟩
    rw [hdec]
    by_cases hq : isQ z = true
    · rw [hq]
      rw [fin_sign hq] at efin0
      have el1 : (⟨c1.toArray⟩ : Str).length = c1.length := rfl
      refine ⟨_, rfl, _, rfl, z, 1, sgn z, rfl, rfl, line1000 (by omega), sign_second hzp hq, ⟨c1.toArray⟩, _, rfl, rfl, by rw [sizeLine_eq, el1]; show c1.length + 1 ≤ _; omega, ?_⟩
      rw [str_snoc]
      refine ⟨_, ?_, zs', c1 ++ [sgn z], at_, _, _, rfl, w5, hzs', ⟨wr, _, ewr, by rw [← ef3], efin0⟩, hat, by rw [List.length_append]; show c1.length + 1 + _ ≤ _; omega, rfl, s05, p5⟩
      rw [hμ]
      omega
    · have hq' : isQ z = false := Bool.eq_false_iff.mpr hq
      rw [hq']
      rw [fin_name hq'] at efin0
      have sqo : SqL K H5 o (is.map V.int) := SqL.of (s05 _ _ ho)
      have sql : SqL K H5 l xs := SqL.of (s05 _ _ hl)
      refine ⟨_, rfl, _, rfl, o, _, rfl, .inl sqo, _, _, rfl, rfl, _, rfl, ?_⟩
      by_cases hatl : ¬ at_ < is.length
      · rw [decide_eq_true (by omega)]
        rw [nextR_no (by omega)] at efin0
        exact iteT (iteT (qN efin0.symm H5 s05 p5))
      have hatl : at_ < is.length := Decidable.not_not.mp hatl
      rw [decide_eq_false (by omega)]
      have ei : is[at_]? = some is[at_] := List.getElem?_eq_getElem hatl
      obtain ⟨i, eii⟩ : ∃ i, is[at_] = i := ⟨_, rfl⟩
      rw [eii] at ei
      clear eii
      rw [nextR_at ei] at efin0
      have ao : atI (is.map V.int) (at_ : Int) = some (.int i) := atI_nat (by rw [List.getElem?_map, ei]; rfl)
      refine iteF ⟨_, rfl, _, rfl, o, _, _, _, rfl, rfl, sqo, ao, _, _, rfl, rfl, _, rfl, ?_⟩
      by_cases h0 : ¬ 0 ≤ i
      · rw [decide_eq_false h0]
        rw [if_neg h0] at efin0
        exact iteF ⟨_, rfl, iteT (iteT (qN efin0.symm H5 s05 p5))⟩
      have h0 : 0 ≤ i := Decidable.not_not.mp h0
      rw [decide_eq_true h0]
      rw [if_pos h0] at efin0
      obtain ⟨k, rfl⟩ : ∃ k : Nat, i = (k : Int) := ⟨i.toNat, by omega⟩
      rw [Int.toNat_natCast] at efin0
      refine iteT ⟨_, rfl, l, _, rfl, .inl sql, _, _, rfl, rfl, _, rfl, ?_⟩
      by_cases h1 : ¬ k < g.length
      · rw [decide_eq_false (by omega)]
        rw [List.getElem?_eq_none (by omega)] at efin0
        exact iteT (iteT (qN efin0.symm H5 s05 p5))
      have h1 : k < g.length := Decidable.not_not.mp h1
      rw [decide_eq_true (by omega)]
      obtain ⟨r, er⟩ : ∃ r, g[k]? = some r := ⟨_, List.getElem?_eq_getElem h1⟩
      rw [er] at efin0
      obtain ⟨tt, pp, ax, ht1, hpp⟩ := rule_num hds er
      have hok := rule_okB hg er
      refine iteF ⟨_, rfl, _, rfl, _, rfl, o, _, _, _, rfl, rfl, sqo, ao, l, _, _, _, rfl, rfl, sql, ax, tt, _, 0, _, rfl, rfl, SqT.of (s05 _ _ ht1), rfl, _, rfl, rfl, _, rfl, ?_⟩
      rw [decS]
      by_cases hrz : ¬ r.1 = z
      · rw [decide_eq_false hrz]
        have efin0 : none = R := by
          rw [← efin0]
          show _ = (match (if r.1 = z then some (k, r) else none) with | none => none | some (_, r) => _)
          rw [if_neg hrz]
        exact iteT (qN efin0.symm H5 s05 p5)
      have hrz : r.1 = z := Decidable.not_not.mp hrz
      rw [decide_eq_true hrz]
      have efin0 : fin g (r.2.1.map Sum.inl ++ (Sum.inr sr.bg.length :: wr)) ⟨sr.sg, sr.bg ++ [sr.sg.length], sr.st ++ [sr.sg.length]⟩ ((is.map D.int).drop (at_ + 1)) = R := by
        rw [← efin0]
        show _ = (match (if r.1 = z then some (k, r) else none) with | none => none | some (_, r) => _)
        rw [if_pos hrz]
      refine iteF ?_
      refine ⟨_, rfl, _, rfl, _, rfl, o, _, _, _, rfl, rfl, sqo, ao, l, _, _, _, rfl, rfl, sql, ax, tt, _, 1, _, rfl, rfl, SqT.of (s05 _ _ ht1), rfl, pp, _, rfl, SqT.of (s05 _ _ hpp), ?_⟩
      have hr6 := (rule_parts hok).1
      refine for_revT (K := K) (a := pp) (xs := r.2.1.map V.str) (fun i σ H6 => ∃ v6, σ = [some (.ref l), some (.ref o), some (.ref lw), some (.str ⟨c1.toArray⟩), some (.int (at_ : Int)), some (.str z), v6] ∧ H6 lw = some (.lst ((zs' ++ r.2.1.reverse.take i).map V.str)) ∧ Same H H6 ∧ Plain H6)
        ⟨v6, rfl, by rw [List.take_zero, List.append_nil]; exact w5, s05, p5⟩ ?_ ?_ ?_
      · rintro i σ H6 _ ⟨_, rfl, _, s6, _⟩
        exact SqT.of (s6 _ _ hpp)
      · rintro i y σ H6 hi ⟨v6, rfl, w6, s6, p6⟩
        rw [← List.map_reverse, List.getElem?_map] at hi
        cases ex : r.2.1.reverse[i]? with
        | none => rw [ex] at hi; cases hi
        | some x =>
          rw [ex] at hi
          cases hi
          have et : r.2.1.reverse.take (i + 1) = r.2.1.reverse.take i ++ [x] := by rw [List.take_add_one, ex]; rfl
          refine ⟨_, rfl, .inl ⟨rfl, _, SqL.of w6⟩, _, rfl, lw, _, _, rfl, rfl, w6, by rw [List.length_map, List.length_append, List.length_take, List.length_reverse, sizeLine_eq]; omega, _, rfl, ?_, s6.put hlw0, p6.upd rfl⟩
          rw [upd_same, et, ← List.append_assoc, List.map_append (l₂ := [x])]
          rfl
      · rintro σ H6 ⟨v6, rfl, w6, s6, p6⟩
        have eall : r.2.1.reverse.take (r.2.1.map V.str).length = r.2.1.reverse := by rw [List.length_map, ← List.length_reverse (as := r.2.1), List.take_length]
        rw [eall] at w6
        refine ⟨_, rfl, _, _, rfl, rfl, ?_⟩
        have ei : (at_ : Int) + 1 = ((at_ + 1 : Nat) : Int) := by omega
        refine ⟨_, ?_, zs' ++ r.2.1.reverse, c1, at_ + 1, _, _, by rw [← ei]; rfl, w6, fun x hx => ?_, ⟨_, _, ?_, ?_, efin0⟩, by omega, ?_, rfl, s6, p6⟩
        · rw [hμ, List.length_append, List.length_reverse]
          omega
        · rcases List.mem_append.mp hx with hx | hx
          · exact hzs' x hx
          · exact (rule_parts hok).2 x (List.mem_reverse.mp hx)
        · rw [strip_app, List.reverse_append, List.reverse_reverse]
          show r.2.1 ++ strip wr = _
          rw [ewr]
        · exact ef3
        · rw [List.length_append, List.length_reverse]
          omega
end
end FR


set_option linter.all false
set_option maxRecDepth 100000
set_option maxHeartbeats 4000000
namespace FR
open PySem L2
abbrev s__law_changed : Stmt := top 51


def chD (ks : List Nat) (wy : Int) (at_ : Nat) (nu : Int) : D :=
  let a := (ks.take at_).map intD
  let b := (ks.drop at_).map intD
  let c := (ks.drop (at_ + 1)).map intD
  if wy = 0 then .lst (a ++ c) else if wy = 1 then .lst (a ++ [.int nu] ++ b) else if wy = 2 then .lst (a ++ [.int nu] ++ c) else if wy = 3 then .lst a
  else if wy = 4 then .lst (ks.map intD ++ b) else if wy = 5 then .lst (ks.map intD)
  else if wy = 6 then ([.tup (ks.map intD), .non, .str "0", .int 0, .bl true, .oth] : List D).getD (at_ % 6) .non
  else .lst (a ++ [([.bl true, .bl false, .str "0", .non, .tup [.int 0], .lst [.int 0]] : List D).getD (nu % 6).toNat .non] ++ c)

def ChOk (H : Hp) (v : V) (wy : Int) (d : D) : Prop := (∃ o xs ds, v = .ref o ∧ H o = some (.lst xs) ∧ d = .lst ds ∧ Dens H xs ds) ∨ (wy = 6 ∧ Den H v d ∧ (d = .oth → ∃ a, v = .ref a ∧ H a = some (.dK [])))
def spChanged : Sp := fun vs H Q _ => ∃ (o : Addr) (ks : List Nat) (wy : Int) (at_ : Nat) (nu : Int), vs = [.ref o, .int wy, nV at_, .int nu] ∧ H o = some (.lst (ks.map nV)) ∧ ks.length ≤ 200 ∧ at_ < ks.length ∧ Plain H ∧
  ∀ v H', ChOk H' v wy (chD ks wy at_ nu) → Same H H' → Plain H' → Q v H'
theorem cut_dropB (xs : List V) (n : Nat) (h : n ≤ xs.length) : cutV xs (some (n : Int)) none = xs.drop n := by
  unfold cutV
  have e2 : HT.sIx xs.length 0 (some (n : Int)) = min n xs.length := HT.sIx_nat _ _ n
  rw [e2, Nat.min_eq_left h]
  show (xs.drop n).take (xs.length - n) = _
  exact List.take_of_length_le (by rw [List.length_drop]; exact Nat.le_refl _)
theorem pickD {H : Hp} {xs : List V} {ds : List D} (i : Nat) (hi : i < ds.length) (h : Dens H xs ds) : ∃ y, atI xs (i : Int) = some y ∧ Den H y (ds.getD i .non) := by
  have e : ds[i]? = some ds[i] := List.getElem?_eq_getElem hi
  obtain ⟨v, ev, dv⟩ := h.getD e
  exact ⟨v, atI_nat ev, by rw [List.getD_eq_getElem?_getD, e]; exact dv⟩
theorem chD_7 {ks : List Nat} {wy : Int} {at_ : Nat} {nu : Int} (n0 : wy ≠ 0) (n1 : wy ≠ 1) (n2 : wy ≠ 2) (n3 : wy ≠ 3) (n4 : wy ≠ 4) (n5 : wy ≠ 5) (n6 : wy ≠ 6) : chD ks wy at_ nu = .lst ((ks.take at_).map intD ++ [([.bl true, .bl false, .str "0", .non, .tup [.int 0], .lst [.int 0]] : List D).getD (nu % 6).toNat .non] ++ (ks.drop (at_ + 1)).map intD) := by
  unfold chD
  rw [if_neg n0, if_neg n1, if_neg n2, if_neg n3, if_neg n4, if_neg n5, if_neg n6]
section
variable {P : Program} {w : World} {K : PySem.W.Frag} {mg : Str → Option Value} {base : Heap} {C : Adr}
theorem sc__law_changed : FnScope ["_law_row_here", "_law_way", "_law_at", "_law_number"] ["_law_row_here", "_law_way", "_law_at", "_law_number"] (defScope s__law_changed) := ⟨rfl, rfl, rfl, by decide +kernel, rfl, by decide +kernel, by decide +kernel⟩
theorem ok__law_changed {f : Addr} {fd : FuncData} (F : Fun K "_law_changed" "_law_changed" s__law_changed f fd) (T : Txt K mg C) : FnOk P w K mg base CX0 1 f fd ["_law_row_here", "_law_way", "_law_at", "_law_number"] (spChanged) := by
  refine F.ok sc__law_changed (fun vs H Q E h => ?_) (fun cdv A outer s H vs Q E hr h => ?_)
  · obtain ⟨o, ks, wy, at_, nu, rfl, _⟩ := h
    rfl
  · obtain ⟨o, ks, wy, at_, nu, rfl, ho, hkl, hat, hp, q⟩ := h
    have hu := hu_of hr
    have hU := hr.units
    refine qex ?_
    refine ⟨_, (qss_cons ⟨(ps_if (pt_cmpR op_eq (pv 1) pe_int (nomark _)) (pss_one (ps_ret (pe_op op_cat (pe_slice (sl_listK K rfl) (pv 0) po_none (po_some (pv 2))) (pe_slice (sl_listK K rfl) (pv 0) (po_some (pe_op op_add (pv 2) pe_int)) po_none)))) pss_nil)⟩
      (qss_cons ⟨(ps_if (pt_cmpR op_eq (pv 1) pe_int (nomark _)) (pss_one (ps_ret (pe_op op_cat (pe_op op_cat (pe_slice (sl_listK K rfl) (pv 0) po_none (po_some (pv 2))) (pe_lst (pa_cons (pv 3) pa_nil))) (pe_slice (sl_listK K rfl) (pv 0) (po_some (pv 2)) po_none)))) pss_nil)⟩
      (qss_cons ⟨(ps_if (pt_cmpR op_eq (pv 1) pe_int (nomark _)) (pss_one (ps_ret (pe_op op_cat (pe_op op_cat (pe_slice (sl_listK K rfl) (pv 0) po_none (po_some (pv 2))) (pe_lst (pa_cons (pv 3) pa_nil))) (pe_slice (sl_listK K rfl) (pv 0) (po_some (pe_op op_add (pv 2) pe_int)) po_none)))) pss_nil)⟩
      (qss_cons ⟨(ps_if (pt_cmpR op_eq (pv 1) pe_int (nomark _)) (pss_one (ps_ret (pe_slice (sl_listK K rfl) (pv 0) po_none (po_some (pv 2))))) pss_nil)⟩
      (qss_cons ⟨(ps_if (pt_cmpR op_eq (pv 1) pe_int (nomark _)) (pss_one (ps_ret (pe_op op_cat (pv 0) (pe_slice (sl_listK K rfl) (pv 0) (po_some (pv 2)) po_none)))) pss_nil)⟩
      (qss_cons ⟨(ps_if (pt_cmpR op_eq (pv 1) pe_int (nomark _)) (pss_one (ps_ret (pv 0))) pss_nil)⟩
      (qss_cons ⟨(ps_if (pt_cmpR op_eq (pv 1) pe_int (nomark _)) (pss_one (ps_ret (pe_ix (ix_listK K rfl) (pe_lst (pa_cs (pe_callTy (call_tuple_ofK K rfl) (by rfl) T.z_tuple PyProof.Rows.Boot.«tuple» (pa_cons (pv 0) pa_nil)) (pa_cs pe_non (pa_cs pe_str (pa_cs pe_int (pa_cs pe_bl (pa_cs pe_dnewK pa_nil))))))) (pe_op op_mod (pv 2) pe_int) (fun _ _ => rfl)))) pss_nil)⟩
      (qss_one ⟨(ps_ret (pe_op op_cat (pe_op op_cat (pe_slice (sl_listK K rfl) (pv 0) po_none (po_some (pv 2))) (pe_lst (pa_cons (pe_ix (ix_listK K rfl) (pe_lst (pa_cs pe_bl (pa_cs pe_bl (pa_cs pe_str (pa_cs pe_non (pa_cs (pe_tup (pa_cons pe_int pa_nil)) (pa_cs (pe_lst (pa_cons pe_int pa_nil)) pa_nil))))))) (pe_op op_mod (pv 3) pe_int) (fun _ _ => rfl)) pa_nil))) (pe_slice (sl_listK K rfl) (pv 0) (po_some (pe_op op_add (pv 2) pe_int)) po_none)))⟩)))))))), ?_⟩
    have hmap : ∀ l : List Nat, Dens H (l.map nV) (l.map intD) := fun l => by
      have e : l.map intD = (l.map fun k : Nat => (k : Int)).map D.int := by rw [List.map_map]; rfl
      rw [e]
      exact dens_nats l
    have hmapG : ∀ {G : Hp} (l : List Nat), Dens G (l.map nV) (l.map intD) := fun {G} l => by
      have e : l.map intD = (l.map fun k : Nat => (k : Int)).map D.int := by rw [List.map_map]; rfl
      rw [e]
      exact dens_nats l
    have hkn : (ks.map nV).length = ks.length := List.length_map ..
    have cA : cutV (ks.map nV) none (some (at_ : Int)) = (ks.take at_).map nV := by rw [cut_takeB _ _ (by omega), List.map_take]
    have cB : cutV (ks.map nV) (some (at_ : Int)) none = (ks.drop at_).map nV := by rw [cut_dropB _ _ (by omega), List.map_drop]
    have cC : cutV (ks.map nV) (some ((at_ : Int) + 1)) none = (ks.drop (at_ + 1)).map nV := by
      rw [show (at_ : Int) + 1 = ((at_ + 1 : Nat) : Int) by omega, cut_dropB _ _ (by omega), List.map_drop]
    have w_of : ∀ {i : Int}, decide (V.int wy = V.int i) = true → wy = i := fun {i} h => by
      have := of_decide_eq_true h
      injection this
    have w_no : ∀ {i : Int}, ¬ decide (V.int wy = V.int i) = true → wy ≠ i := fun {i} h e => h (decide_eq_true (by rw [e]))
    have lT : ((ks.take at_).map nV).length ≤ 200 := by rw [List.length_map, List.length_take]; omega
    have lD : ∀ n, ((ks.drop n).map nV).length ≤ 200 := fun n => by rw [List.length_map, List.length_drop]; omega
    refine ⟨_, rfl, rfl, _, rfl, ite2 (fun h0 => ?_) fun h0 => ?_⟩
    · have e := w_of h0
      subst e
      refine ⟨_, rfl, _, rfl, _, rfl, o, _, rfl, SqL.of ho, fun a1 ha1 => ?_⟩
      rw [cA]
      have s1 := Same.upd (o := .lst ((ks.take at_).map nV)) ha1
      refine ⟨_, rfl, _, rfl, _, _, rfl, rfl, _, rfl, o, _, rfl, SqL.of (s1 _ _ ho), fun a2 ha2 => ?_⟩
      dsimp only at ha2 ⊢
      rw [cC]
      have s2 := Same.upd (o := .lst ((ks.drop (at_ + 1)).map nV)) ha2
      refine ⟨a1, a2, _, _, rfl, rfl, s2 _ _ upd_same, upd_same, line1000 (by have := lD (at_ + 1); omega), fun a3 ha3 => ?_⟩
      have s3 := Same.upd (o := .lst ((ks.take at_).map nV ++ (ks.drop (at_ + 1)).map nV)) ha3
      exact q _ _ (.inl ⟨_, _, _, rfl, upd_same, rfl, ((hmapG _).append (hmapG _))⟩) (s1.trans (s2.trans s3)) (((hp.upd rfl).upd rfl).upd rfl)
    have n0 := w_no h0
    refine ⟨_, rfl, rfl, _, rfl, ite2 (fun h1 => ?_) fun h1 => ?_⟩
    · have e := w_of h1
      subst e
      refine ⟨_, rfl, _, rfl, _, rfl, o, _, rfl, SqL.of ho, fun a1 ha1 => ?_⟩
      rw [cA]
      have s1 := Same.upd (o := .lst ((ks.take at_).map nV)) ha1
      refine ⟨_, rfl, line1000 (by show 1 ≤ 1000; decide), fun a2 ha2 => ?_⟩
      have s2 := Same.upd (o := .lst [.int nu]) ha2
      refine ⟨a1, a2, _, _, rfl, rfl, s2 _ _ upd_same, upd_same, line1000 (by show _ + 1 ≤ 1000; omega), fun a3 ha3 => ?_⟩
      have s3 := Same.upd (o := .lst ((ks.take at_).map nV ++ [.int nu])) ha3
      have s13 := s1.trans (s2.trans s3)
      refine ⟨_, rfl, _, rfl, _, rfl, o, _, rfl, SqL.of (s13 _ _ ho), fun a4 ha4 => ?_⟩
      rw [cB]
      have s4 := Same.upd (o := .lst ((ks.drop at_).map nV)) ha4
      refine ⟨a3, a4, _, _, rfl, rfl, s4 _ _ upd_same, upd_same, line1000 (by rw [List.length_append]; show _ + 1 + _ ≤ 1000; have := lD at_; omega), fun a5 ha5 => ?_⟩
      have s5 := Same.upd (o := .lst ((ks.take at_).map nV ++ [.int nu] ++ (ks.drop at_).map nV)) ha5
      exact q _ _ (.inl ⟨_, _, _, rfl, upd_same, rfl, (((hmapG _).append (.cons (.int _) .nil)).append (hmapG _))⟩) (s13.trans (s4.trans s5)) (((((hp.upd rfl).upd rfl).upd rfl).upd rfl).upd rfl)
    have n1 := w_no h1
    clear h0 h1
    refine ⟨_, rfl, rfl, _, rfl, ite2 (fun h2 => ?_) fun h2 => ?_⟩
    · have e := w_of h2
      subst e
      refine ⟨_, rfl, _, rfl, _, rfl, o, _, rfl, SqL.of ho, fun a1 ha1 => ?_⟩
      rw [cA]
      have s1 := Same.upd (o := .lst ((ks.take at_).map nV)) ha1
      refine ⟨_, rfl, line1000 (by show 1 ≤ 1000; decide), fun a2 ha2 => ?_⟩
      have s2 := Same.upd (o := .lst [.int nu]) ha2
      refine ⟨a1, a2, _, _, rfl, rfl, s2 _ _ upd_same, upd_same, line1000 (by show _ + 1 ≤ 1000; omega), fun a3 ha3 => ?_⟩
      have s3 := Same.upd (o := .lst ((ks.take at_).map nV ++ [.int nu])) ha3
      have s13 := s1.trans (s2.trans s3)
      refine ⟨_, rfl, _, rfl, _, _, rfl, rfl, _, rfl, o, _, rfl, SqL.of (s13 _ _ ho), fun a4 ha4 => ?_⟩
      dsimp only at ha4 ⊢
      rw [cC]
      have s4 := Same.upd (o := .lst ((ks.drop (at_ + 1)).map nV)) ha4
      refine ⟨a3, a4, _, _, rfl, rfl, s4 _ _ upd_same, upd_same, line1000 (by rw [List.length_append]; show _ + 1 + _ ≤ 1000; have := lD (at_ + 1); omega), fun a5 ha5 => ?_⟩
      have s5 := Same.upd (o := .lst ((ks.take at_).map nV ++ [.int nu] ++ (ks.drop (at_ + 1)).map nV)) ha5
      exact q _ _ (.inl ⟨_, _, _, rfl, upd_same, rfl, (((hmapG _).append (.cons (.int _) .nil)).append (hmapG _))⟩) (s13.trans (s4.trans s5)) (((((hp.upd rfl).upd rfl).upd rfl).upd rfl).upd rfl)
    have n2 := w_no h2
    clear h2
    refine ⟨_, rfl, rfl, _, rfl, ite2 (fun h3 => ?_) fun h3 => ?_⟩
    · have e := w_of h3
      subst e
      refine ⟨_, rfl, _, rfl, _, rfl, o, _, rfl, SqL.of ho, fun a1 ha1 => ?_⟩
      rw [cA]
      exact q _ _ (.inl ⟨_, _, _, rfl, upd_same, rfl, (hmapG _)⟩) (Same.upd ha1) (hp.upd rfl)
    have n3 := w_no h3
    clear h3
    refine ⟨_, rfl, rfl, _, rfl, ite2 (fun h4 => ?_) fun h4 => ?_⟩
    · have e := w_of h4
      subst e
      refine ⟨_, rfl, _, rfl, _, rfl, _, rfl, o, _, rfl, SqL.of ho, fun a1 ha1 => ?_⟩
      rw [cB]
      have s1 := Same.upd (o := .lst ((ks.drop at_).map nV)) ha1
      refine ⟨o, a1, _, _, rfl, rfl, s1 _ _ ho, upd_same, line1000 (by have := lD at_; omega), fun a2 ha2 => ?_⟩
      exact q _ _ (.inl ⟨_, _, _, rfl, upd_same, rfl, ((hmapG _).append (hmapG _))⟩) (s1.trans (Same.upd ha2)) ((hp.upd rfl).upd rfl)
    have n4 := w_no h4
    clear h4
    refine ⟨_, rfl, rfl, _, rfl, ite2 (fun h5 => ?_) fun h5 => ?_⟩
    · have e := w_of h5
      subst e
      exact ⟨_, rfl, q _ _ (.inl ⟨_, _, _, rfl, ho, rfl, (hmapG _)⟩) (Same.refl _) hp⟩
    have n5 := w_no h5
    clear h5
    refine ⟨_, rfl, rfl, _, rfl, ite2 (fun h6 => ?_) fun h6 => ?_⟩
    · have e := w_of h6
      subst e
      refine ⟨_, rfl, o, ks.map nV, rfl, .inl ⟨SqL.of ho, fun t0 ht0 => fun d0 hd0 => ⟨line1000 (by show 6 ≤ 1000; decide), fun b0 hb0 => ?_⟩⟩⟩
      have s1 := Same.upd (o := .tup (ks.map nV)) ht0
      have s2 := Same.upd (o := .dK []) hd0
      have s3 := Same.upd (o := .lst [.ref t0, .non, .str "0", .int 0, .bl true, .ref d0]) hb0
      have hds : Dens (upd (upd (upd H t0 (.tup (ks.map nV))) d0 (.dK [])) b0 (.lst [.ref t0, .non, .str "0", .int 0, .bl true, .ref d0])) [.ref t0, .non, .str "0", .int 0, .bl true, .ref d0] [.tup (ks.map intD), .non, .str "0", .int 0, .bl true, .oth] :=
        .cons (.tup (s3 _ _ (s2 _ _ upd_same)) (hmapG _)) (.cons .non (.cons (.str _) (.cons (.int _) (.cons (.bl _) (.cons (by unfold Den; exact ⟨_, _, rfl, s3 _ _ upd_same⟩) .nil)))))
      obtain ⟨y, hy, hden⟩ := pickD (at_ % 6) (by show at_ % 6 < 6; omega) hds
      rw [show ((at_ % 6 : Nat) : Int) = (at_ : Int) % 6 by omega] at hy
      have hoth : chD ks 6 at_ nu = .oth → ∃ a, y = .ref a ∧ upd (upd (upd H t0 (.tup (ks.map nV))) d0 (.dK [])) b0 (.lst [.ref t0, .non, .str "0", .int 0, .bl true, .ref d0]) a = some (.dK []) := fun e => by
        have h6 : at_ % 6 = 0 ∨ at_ % 6 = 1 ∨ at_ % 6 = 2 ∨ at_ % 6 = 3 ∨ at_ % 6 = 4 ∨ at_ % 6 = 5 := by omega
        have e : ([.tup (ks.map intD), .non, .str "0", .int 0, .bl true, .oth] : List D).getD (at_ % 6) .non = .oth := e
        rcases h6 with h | h | h | h | h | h <;> rw [h] at e
        · simp at e
        · simp at e
        · simp at e
        · simp at e
        · simp at e
        · have h5 : (at_ : Int) % 6 = 5 := by omega
          rw [h5] at hy
          have hy : some (V.ref d0) = some y := hy
          cases hy
          exact ⟨_, rfl, s3 _ _ upd_same⟩
      refine ⟨_, rfl, _, _, rfl, rfl, (by show (0 : Int) < 6; decide), b0, _, _, y, rfl, rfl, SqL.of upd_same, hy, ?_⟩
      exact q _ _ (.inr ⟨rfl, hden, hoth⟩) (s1.trans (s2.trans s3)) (((hp.upd rfl).upd rfl).upd rfl)
    have n6 := w_no h6
    clear h6
    rw [chD_7 n0 n1 n2 n3 n4 n5 n6] at q
    refine ⟨_, rfl, _, rfl, _, rfl, o, _, rfl, SqL.of ho, fun a1 ha1 => ?_⟩
    rw [cA]
    have s1 := Same.upd (o := .lst ((ks.take at_).map nV)) ha1
    refine ⟨line1000 (by show 1 ≤ 1000; decide), fun t1 ht1 => ⟨line1000 (by show 1 ≤ 1000; decide), fun t2 ht2 => ⟨line1000 (by show 6 ≤ 1000; decide), fun b0 hb0 => ?_⟩⟩⟩
    have s2 := Same.upd (o := .tup [.int 0]) ht1
    have s3 := Same.upd (o := .lst [.int 0]) ht2
    have s4 := Same.upd (o := .lst [.bl true, .bl false, .str "0", .non, .ref t1, .ref t2]) hb0
    have hds : Dens (upd (upd (upd (upd H a1 (.lst ((ks.take at_).map nV))) t1 (.tup [.int 0])) t2 (.lst [.int 0])) b0 (.lst [.bl true, .bl false, .str "0", .non, .ref t1, .ref t2])) [.bl true, .bl false, .str "0", .non, .ref t1, .ref t2] [.bl true, .bl false, .str "0", .non, .tup [.int 0], .lst [.int 0]] :=
      .cons (.bl _) (.cons (.bl _) (.cons (.str _) (.cons .non (.cons (.tup (s4 _ _ (s3 _ _ upd_same)) (.cons (.int _) .nil)) (.cons (.lst (.inl (s4 _ _ upd_same)) (.cons (.int _) .nil)) .nil)))))
    have pl4 : Plain (upd (upd (upd (upd H a1 (.lst ((ks.take at_).map nV))) t1 (.tup [.int 0])) t2 (.lst [.int 0])) b0 (.lst [.bl true, .bl false, .str "0", .non, .ref t1, .ref t2])) := (((hp.upd rfl).upd rfl).upd rfl).upd rfl
    obtain ⟨y, hy, hden⟩ := pickD (nu % 6).toNat (by show (nu % 6).toNat < 6; omega) hds
    rw [show (((nu % 6).toNat : Nat) : Int) = nu % 6 by omega] at hy
    refine ⟨_, rfl, _, _, rfl, rfl, (by show (0 : Int) < 6; decide), b0, _, _, y, rfl, rfl, SqL.of upd_same, hy, line1000 (by show 1 ≤ 1000; decide), fun a2 ha2 => ?_⟩
    have s234 := s2.trans (s3.trans s4)
    have e1 := s234 _ _ (upd_same (H := H) (a := a1) (o := .lst ((ks.take at_).map nV)))
    have s14 := s1.trans s234
    clear s2 s3 s4 hds hy ht1 ht2
    revert hden e1 s14 ha2 pl4
    clear s234 hb0
    generalize upd (upd (upd (upd H a1 (.lst ((ks.take at_).map nV))) t1 (.tup [.int 0])) t2 (.lst [.int 0])) b0 (.lst [.bl true, .bl false, .str "0", .non, .ref t1, .ref t2]) = H4
    intro pl4 hden ha2 e1 s14
    have s5 := Same.upd (o := .lst [y]) ha2
    refine ⟨a1, a2, _, _, rfl, rfl, s5 _ _ e1, upd_same, line1000 (by show _ + 1 ≤ 1000; omega), fun a3 ha3 => ?_⟩
    have s6 := Same.upd (o := .lst ((ks.take at_).map nV ++ [y])) ha3
    have s16 := s14.trans (s5.trans s6)
    refine ⟨_, rfl, _, rfl, _, _, rfl, rfl, _, rfl, o, _, rfl, SqL.of (s16 _ _ ho), fun a4 ha4 => ?_⟩
    dsimp only at ha4 ⊢
    rw [cC]
    have s7 := Same.upd (o := .lst ((ks.drop (at_ + 1)).map nV)) ha4
    refine ⟨a3, a4, _, _, rfl, rfl, s7 _ _ upd_same, upd_same, line1000 (by rw [List.length_append]; show _ + 1 + _ ≤ 1000; have := lD (at_ + 1); omega), fun a5 ha5 => ?_⟩
    have s8 := Same.upd (o := .lst ((ks.take at_).map nV ++ [y] ++ (ks.drop (at_ + 1)).map nV)) ha5
    have s48 := s5.trans (s6.trans (s7.trans s8))
    exact q _ _ (.inl ⟨_, _, _, rfl, upd_same, rfl, ((hmapG _).append (.cons (hden.same s48) .nil)).append (hmapG _)⟩) (s14.trans s48) ((((pl4.upd rfl).upd rfl).upd rfl).upd rfl)
end
end FR


set_option linter.all false
set_option maxRecDepth 100000
set_option maxHeartbeats 4000000
namespace FR
open PySem L2
abbrev s__law_asked : Stmt := top 52

def ansV (g : Gram) (ds : List D) (rd : Rdg) (wy : Int) : V := if wy = 0 then .str ⟨rd.sg.toArray⟩ else if wy = 1 then .int (ds.map (wOf g)).sum else .int (ds.length : Int)
def spAsked : Sp := fun vs H Q _ => ∃ (x y : V) (g : Gram) (d : D) (wy : Int), vs = [x, y, .int wy] ∧ Den H x (gramD g) ∧ okGram g = true ∧ Den H y d ∧ d.short = true ∧ (∀ ds, d = .lst ds → ds.length ≤ 2000) ∧ Plain H ∧
  (readD g d = none → ∀ o H', Same H H' → Plain H' → H o = none → H' o = some (.lst [.int 2]) → Q (.ref o) H') ∧
  (∀ ds rd H', d = .lst ds → readG g ds = some rd → Same H H' → Plain H' → Q (ansV g ds rd wy) H')
def spNoGram : Sp := fun vs H Q _ => ∃ (y : V) (d : D) (c wy : Int), vs = [y, .int c, .int wy] ∧ Den H y d ∧ d.short = true ∧ (∀ ds, d = .lst ds → ds.length ≤ 2000) ∧ Plain H ∧ ∀ H', Same H H' → Plain H' → Q (.bl true) H'
section
variable {P : Program} {w : World} {K : PySem.W.Frag} {mg : Str → Option Value} {base : Heap} {C : Adr}
theorem sc__law_asked : FnScope ["_law_grammar_here", "_law_row_here", "_law_way", "_law_found", "e", "_law_own", "_law_other"] ["_law_grammar_here", "_law_row_here", "_law_way"] (defScope s__law_asked) := ⟨rfl, rfl, rfl, by decide +kernel, rfl, by decide +kernel, by decide +kernel⟩
theorem ok__law_asked {f : Addr} {fd : FuncData} (F : Fun K "_law_asked" "_law_asked" s__law_asked f fd) (T : Txt K mg C) (U_text_of : Used P w K mg (CXo P w) 8 "text_of" ["grammar", "row"] (spTextOf C.NoGrammar C.NoRow)) (U_worth_of : Used P w K mg (CXo P w) 8 "worth_of" ["grammar", "row"] (spWorthOf C.NoGrammar C.NoRow)) (U_spans_of : Used P w K mg (CXo P w) 8 "spans_of" ["grammar", "row"] (spSpansOf C.NoGrammar C.NoRow)) : FnOk P w K mg base CX0 9 f fd ["_law_grammar_here", "_law_row_here", "_law_way"] (spAsked) := by
  obtain ⟨f_text_of, fd_text_of, G_text_of, m_text_of, k_text_of, b_text_of⟩ := U_text_of.ok
  obtain ⟨f_worth_of, fd_worth_of, G_worth_of, m_worth_of, k_worth_of, b_worth_of⟩ := U_worth_of.ok
  obtain ⟨f_spans_of, fd_spans_of, G_spans_of, m_spans_of, k_spans_of, b_spans_of⟩ := U_spans_of.ok
  refine F.ok sc__law_asked (fun vs H Q E h => ?_) (fun cdv A outer s H vs Q E hr h => ?_)
  · obtain ⟨x, y, g, d, wy, rfl, _⟩ := h
    rfl
  · obtain ⟨x, y, g, d, wy, rfl, denG, hg, den, sh, hlen, hp, qN, qS⟩ := h
    have hat : ExcAt K C.NoRow := ⟨T.xga_NoRow, T.xgt_NoRow, T.xcl_NoRow, T.xmb_NoRow, T.xmo_NoRow, T.xgs_, T.xtk_⟩
    refine ⟨_, (pss_cons (ps_set (i := 3) sc__law_asked.nd rfl (Or.inl rfl) (pe_lst (pa_cons pe_int pa_nil)))
      (pss_cons (ps_try (i := 4) (C := C.ForestError) rfl rfl rfl (psxs_one (psx_if (pt_cmpR op_eq (pv 2) pe_int (nomark _)) (psxs_one (psx_set (i := 3) sc__law_asked.nd rfl (Or.inl rfl) (pex_call (G_text_of base) (hr.mono (by decide)) (by rfl) m_text_of k_text_of b_text_of .nil (pa_cons (pv 0) (pa_cons (pv 1) pa_nil))))) (psxs_one (psx_if (pt_cmpR op_eq (pv 2) pe_int (nomark _)) (psxs_one (psx_set (i := 3) sc__law_asked.nd rfl (Or.inl rfl) (pex_call (G_worth_of base) (hr.mono (by decide)) (by rfl) m_worth_of k_worth_of b_worth_of .nil (pa_cons (pv 0) (pa_cons (pv 1) pa_nil))))) (psxs_one (psx_set (i := 3) sc__law_asked.nd rfl (Or.inl rfl) (pex_B1 (call_len_seqK K rfl) (by rfl) T.z_len PyProof.Rows.Boot.«len» (pex_call (G_spans_of base) (hr.mono (by decide)) (by rfl) m_spans_of k_spans_of b_spans_of .nil (pa_cons (pv 0) (pa_cons (pv 1) pa_nil)))))))))) sc__law_asked.nd rfl rfl (by rfl) T.n_ForestError (fun e => (pss_cons (ps_set (i := 5) sc__law_asked.nd rfl (Or.inl rfl) (pe_and (pe_callB (call_isiXk K rfl) (by rfl) T.z_isinstance PyProof.Rows.Boot.«isinstance» (pa_cons (pv 4) (pa_cons (pe_glob (v := .ref C.NoRow) (by rfl) T.n_NoRow rfl) pa_nil))) (pe_one (pe_callB (call_isiXk K rfl) (by rfl) T.z_isinstance PyProof.Rows.Boot.«isinstance» (pa_cons (pv 4) (pa_cons (pe_bltn (v := .ty "ValueError") (by rfl) T.z_ValueError PyProof.Rows.Boot.«ValueError» rfl) pa_nil))))))
      (pss_cons (ps_set (i := 6) sc__law_asked.nd rfl (Or.inl rfl) (pe_callB (call_isiXTk K rfl) (by rfl) T.z_isinstance PyProof.Rows.Boot.«isinstance» (pa_cons (pv 4) (pa_cons (pe_tup (pa_cs (pe_glob (v := .ref C.Barren) (by rfl) T.n_Barren rfl) (pa_cs (pe_glob (v := .ref C.Endless) (by rfl) T.n_Endless rfl) (pa_cs (pe_glob (v := .ref C.NoChange) (by rfl) T.n_NoChange rfl) (pa_cs (pe_glob (v := .ref C.NoCosts) (by rfl) T.n_NoCosts rfl) (pa_cs (pe_glob (v := .ref C.NoNumber) (by rfl) T.n_NoNumber rfl) pa_nil)))))) pa_nil))))
      (pss_cons (ps_set (i := 6) sc__law_asked.nd rfl (Or.inl rfl) (pe_or (pv 6) (pe_one (pe_callB (call_isiXTk K rfl) (by rfl) T.z_isinstance PyProof.Rows.Boot.«isinstance» (pa_cons (pv 4) (pa_cons (pe_tup (pa_cs (pe_glob (v := .ref C.NoGrammar) (by rfl) T.n_NoGrammar rfl) (pa_cs (pe_glob (v := .ref C.NoRule) (by rfl) T.n_NoRule rfl) (pa_cs (pe_glob (v := .ref C.NoText) (by rfl) T.n_NoText rfl) (pa_cs (pe_glob (v := .ref C.NoWords) (by rfl) T.n_NoWords rfl) (pa_cs (pe_glob (v := .ref C.TooGreat) (by rfl) T.n_TooGreat rfl) pa_nil)))))) pa_nil))))))
      (pss_one (ps_set (i := 3) sc__law_asked.nd rfl (Or.inl rfl) (pe_lst (pa_cons (pe_op op_sub (pe_op op_add pe_int (pe_callTy call_int1 (by rfl) T.z_int PyProof.Rows.Boot.«int» (pa_cons (pv 5) pa_nil))) (pe_callTy call_int1 (by rfl) T.z_int PyProof.Rows.Boot.«int» (pa_cons (pv 6) pa_nil))) pa_nil)))))))))
      (pss_one (ps_ret (pv 3))))), ?_⟩
    refine ⟨line1000 (by show 1 ≤ 1000; decide), fun l0 hl0 => ?_⟩
    have s0 := Same.upd (o := .lst [.int 0]) hl0
    have p0 : Plain (upd H l0 (.lst [.int 0])) := hp.upd rfl
    have dn0 := den.same s0
    have dg0 := denG.same s0
    have notG : isGramD (gramD g) = false → False := fun e => by rw [isGramD_gramD, hg] at e; cases e
    dsimp only [gName, tSeq]
    refine try_split (fun cls σ' H1 => readD g d = none ∧ cls = .ref C.NoRow ∧ σ' = [some x, some y, some (.int wy), some (.ref l0), none, none, none] ∧ Same (upd H l0 (.lst [.int 0])) H1 ∧ Plain H1) ?_ fun EE hE => ?_
    · rintro cls σ' H1 ⟨hr0, rfl, rfl, s1, p1⟩
      refine ⟨T.hit, fun e he => ?_⟩
      refine ⟨_, rfl, e, C.NoRow, _, _, _, rfl, upd_same, T.x_NoRow, hat, rfl, (by unfold PySem.W.kitOne; rw [if_pos (by simp)]), _, rfl, iteT ?_⟩
      refine ⟨_, rfl, e, C.NoRow, _, _, _, rfl, upd_same, T.x_NoRow, hat, rfl, T.val, ?_⟩
      refine ⟨_, rfl, line1000 (by show 5 ≤ 1000; decide), fun t1 h1 => ?_⟩
      have n1 : e ≠ t1 := fun z => by rw [← z, upd_same] at h1; cases h1
      refine ⟨e, C.NoRow, t1, [C.Barren, C.Endless, C.NoChange, C.NoCosts, C.NoNumber], _, rfl, (by rw [upd_ne n1]; exact upd_same), T.x_NoRow, hat, upd_same, T.no1, ?_⟩
      refine ⟨_, rfl, _, rfl, iteF ?_⟩
      refine ⟨_, rfl, line1000 (by show 5 ≤ 1000; decide), fun t2 h2 => ?_⟩
      have n2 : e ≠ t2 := fun z => by rw [← z, upd_ne n1, upd_same] at h2; cases h2
      refine ⟨e, C.NoRow, t2, [C.NoGrammar, C.NoRule, C.NoText, C.NoWords, C.TooGreat], _, rfl, (by rw [upd_ne n2, upd_ne n1]; exact upd_same), T.x_NoRow, hat, upd_same, T.no2, ?_⟩
      refine ⟨_, rfl, .inr ⟨true, rfl, _, _, rfl, rfl, _, rfl, .inr ⟨false, rfl, _, _, rfl, rfl, line1000 (by show 1 ≤ 1000; decide), fun l hl => ?_⟩⟩⟩
      refine ⟨_, rfl, ?_⟩
      have u1 : Same H1 (upd H1 e (xO e (.ref C.NoRow))) := Same.upd he
      have u2 := u1.trans (Same.upd (o := .tup [.ref C.Barren, .ref C.Endless, .ref C.NoChange, .ref C.NoCosts, .ref C.NoNumber]) h1)
      have u3 := u2.trans (Same.upd (o := .tup [.ref C.NoGrammar, .ref C.NoRule, .ref C.NoText, .ref C.NoWords, .ref C.TooGreat]) h2)
      exact qN hr0 l _ ((s0.trans s1).trans (u3.trans (Same.upd (o := .lst [.int 2]) hl))) ((((p1.upd rfl).upd rfl).upd rfl).upd rfl) ((s0.trans (s1.trans u3)).free hl) upd_same
    · have bad : ∀ {g' : Gram}, gramD g = gramD g' → readD g' d = none → ∀ H1, Same (upd H l0 (.lst [.int 0])) H1 → Plain H1 → EE [some x, some y, some (.int wy), some (.ref l0), none, none, none] (.ref C.NoRow) none H1 := fun {g'} eg e H1 s p => hE _ _ _ _ ⟨by cases gramD_inj eg; exact e, rfl, rfl, s, p⟩
      refine ⟨_, rfl, rfl, _, rfl, ite2 (fun h0 => ?_) fun h0 => ?_⟩
      · have ew : wy = 0 := by
          have := of_decide_eq_true h0
          injection this
        subst ew
        refine ⟨_, rfl, _, rfl, x, y, gramD g, d, rfl, dg0, short_gram hg, dn0, sh, hlen, p0, fun g' eg hg' => ⟨fun rd H1 er s1 p1 => ?_, bad eg⟩, fun hf => (notG hf).elim⟩
        cases gramD_inj eg
        refine ⟨_, rfl, ?_⟩
        cases d with
        | lst ds => exact qS ds rd H1 rfl er (s0.trans s1) p1
        | _ => cases er
      have w0 : wy ≠ 0 := fun e => h0 (decide_eq_true (by rw [e]))
      refine ⟨_, rfl, rfl, _, rfl, ite2 (fun h1 => ?_) fun h1 => ?_⟩
      · have ew : wy = 1 := by
          have := of_decide_eq_true h1
          injection this
        subst ew
        refine ⟨_, rfl, _, rfl, x, y, gramD g, d, rfl, dg0, short_gram hg, dn0, sh, hlen, p0, fun g' eg hg' => ⟨fun ds rd H1 ed er s1 p1 => ?_, bad eg⟩, fun hf => (notG hf).elim⟩
        cases gramD_inj eg
        exact ⟨_, rfl, qS ds rd H1 ed er (s0.trans s1) p1⟩
      have w1 : wy ≠ 1 := fun e => h1 (decide_eq_true (by rw [e]))
      refine ⟨_, rfl, _, rfl, x, y, gramD g, d, rfl, dg0, short_gram hg, dn0, sh, hlen, p0, fun g' eg hg' => ⟨fun ds rd l ts H1 ed er s1 p1 hl1 hl2 htl htt => ?_, bad eg⟩, fun hf => (notG hf).elim⟩
      cases gramD_inj eg
      have z := qS ds rd H1 ed er (s0.trans s1) p1
      unfold ansV at z
      rw [if_neg w0, if_neg w1, ← htl] at z
      refine ⟨l, ts.map V.ref, rfl, .inl (SqL.of hl2), ?_⟩
      rw [List.length_map]
      exact ⟨_, rfl, z⟩
theorem sc__law_no_grammar : FnScope ["_law_row_here", "_law_cell", "_law_way", "_law_bad", "_law_kept"] ["_law_row_here", "_law_cell", "_law_way"] (defScope s__law_no_grammar) := ⟨rfl, rfl, rfl, by decide +kernel, rfl, by decide +kernel, by decide +kernel⟩
theorem ok__law_no_grammar {f : Addr} {fd : FuncData} (F : Fun K "_law_no_grammar" "_law_no_grammar" s__law_no_grammar f fd) (T : Txt K mg C) (U_text_of : Used P w K mg (CXo P w) 8 "text_of" ["grammar", "row"] (spTextOf C.NoGrammar C.NoRow)) (U_worth_of : Used P w K mg (CXo P w) 8 "worth_of" ["grammar", "row"] (spWorthOf C.NoGrammar C.NoRow)) (U_spans_of : Used P w K mg (CXo P w) 8 "spans_of" ["grammar", "row"] (spSpansOf C.NoGrammar C.NoRow)) : FnOk P w K mg base CX0 9 f fd ["_law_row_here", "_law_cell", "_law_way"] (spNoGram) := by
  obtain ⟨f_text_of, fd_text_of, G_text_of, m_text_of, k_text_of, b_text_of⟩ := U_text_of.ok
  obtain ⟨f_worth_of, fd_worth_of, G_worth_of, m_worth_of, k_worth_of, b_worth_of⟩ := U_worth_of.ok
  obtain ⟨f_spans_of, fd_spans_of, G_spans_of, m_spans_of, k_spans_of, b_spans_of⟩ := U_spans_of.ok
  refine F.ok sc__law_no_grammar (fun vs H Q E h => ?_) (fun cdv A outer s H vs Q E hr h => ?_)
  · obtain ⟨y, d, c, wy, rfl, _⟩ := h
    rfl
  · obtain ⟨y, d, c, wy, rfl, den, hsh, hlen, hp, q⟩ := h
    refine qex ?_
    refine ⟨_, (qss_cons (qs_set (i := 3) sc__law_no_grammar.nd rfl (Or.inl rfl) (qe_ix (ix_listK K rfl) (qe_lst (qa_cs (qe_lst (qa_cs (qe_tup (qa_cs qe_str (qa_cs (qe_tup qa_nil) (qa_cs qe_int qa_nil)))) qa_nil)) (qa_cs (qe_tup qa_nil) (qa_cs qe_non (qa_cs (qe_lst (qa_cs (qe_tup (qa_cs qe_str (qa_cs (qe_tup qa_nil) (qa_cs ⟨pe_un un_neg pe_int⟩ qa_nil)))) qa_nil)) (qa_cs (qe_lst (qa_cs (qe_tup (qa_cs qe_str (qa_cs (qe_lst (qa_cs qe_str qa_nil)) (qa_cs qe_int qa_nil)))) qa_nil)) (qa_cs (qe_lst (qa_cs (qe_tup (qa_cs qe_str (qa_cs (qe_tup qa_nil) (qa_cs qe_int qa_nil)))) (qa_cs qe_non qa_nil))) (qa_cs qe_str qa_nil)))))))) ⟨(pe_op op_mod (pv 1) pe_int)⟩ (fun _ _ => rfl)))
      (qss_cons (qs_set (i := 4) sc__law_no_grammar.nd rfl (Or.inl rfl) qe_int)
      (qss_cons ⟨(ps_tryN rfl rfl rfl (psxs_one (psx_if (pt_cmpR op_eq (pv 2) pe_int (nomark _)) (psxs_one (psx_expr (pex_call (G_text_of base) (hr.mono (by decide)) (by rfl) m_text_of k_text_of b_text_of .nil (pa_cons (pv 3) (pa_cons (pv 0) pa_nil))))) (psxs_one (psx_if (pt_cmpR op_eq (pv 2) pe_int (nomark _)) (psxs_one (psx_expr (pex_call (G_worth_of base) (hr.mono (by decide)) (by rfl) m_worth_of k_worth_of b_worth_of .nil (pa_cons (pv 3) (pa_cons (pv 0) pa_nil))))) (psxs_one (psx_expr (pex_call (G_spans_of base) (hr.mono (by decide)) (by rfl) m_spans_of k_spans_of b_spans_of .nil (pa_cons (pv 3) (pa_cons (pv 0) pa_nil))))))))) (ph_hit0 (C := C.NoGrammar) rfl (by rfl) T.n_NoGrammar (fun e => (pss_one (ps_set (i := 4) sc__law_no_grammar.nd rfl (Or.inl rfl) pe_int))) ph_nil))⟩
      (qss_one ⟨(ps_ret (pe_cmpR op_eq (pv 4) pe_int (nomark _)))⟩)))), ?_⟩
    have L (n : Nat) (h : n ≤ 1000) : n ≤ sizeLine := line1000 h
    refine ⟨Nat.zero_le _, fun a1 h1 => ⟨L 3 (by decide), fun a2 h2 => ⟨L 1 (by decide), fun a3 h3 => ⟨Nat.zero_le _, fun b1 h4 => ⟨Nat.zero_le _, fun c1 h5 => ⟨1, rfl, L 3 (by decide), fun c2 h6 => ⟨L 1 (by decide), fun c3 h7 => ⟨L 1 (by decide), fun d1 h8 => ⟨L 3 (by decide), fun d2 h9 => ⟨L 1 (by decide), fun d3 h10 => ⟨Nat.zero_le _, fun e1 h11 => ⟨L 3 (by decide), fun e2 h12 => ⟨L 2 (by decide), fun e3 h13 => ⟨L 7 (by decide), fun w1 h14 => ?_⟩⟩⟩⟩⟩⟩⟩⟩⟩⟩⟩⟩⟩⟩
    have fr : FreshL H [(a1, .tup []), (a2, .tup [.str "a", .ref a1, .int 0]), (a3, .lst [.ref a2]), (b1, .tup []), (c1, .tup []), (c2, .tup [.str "A", .ref c1, .int (-1)]), (c3, .lst [.ref c2]), (d1, .lst [.str "'a"]), (d2, .tup [.str "A", .ref d1, .int 0]), (d3, .lst [.ref d2]), (e1, .tup []), (e2, .tup [.str "A", .ref e1, .int 0]), (e3, .lst [.ref e2, .non]), (w1, .lst [.ref a3, .ref b1, .non, .ref c3, .ref d3, .ref e3, .str "A"])] := ⟨h1, h2, h3, h4, h5, h6, h7, h8, h9, h10, h11, h12, h13, h14, trivial⟩
    have sA := updL_same fr
    have at_ := updL_at fr
    have pA := updL_plain (ops := [(a1, .tup []), (a2, .tup [.str "a", .ref a1, .int 0]), (a3, .lst [.ref a2]), (b1, .tup []), (c1, .tup []), (c2, .tup [.str "A", .ref c1, .int (-1)]), (c3, .lst [.ref c2]), (d1, .lst [.str "'a"]), (d2, .tup [.str "A", .ref d1, .int 0]), (d3, .lst [.ref d2]), (e1, .tup []), (e2, .tup [.str "A", .ref e1, .int 0]), (e3, .lst [.ref e2, .non]), (w1, .lst [.ref a3, .ref b1, .non, .ref c3, .ref d3, .ref e3, .str "A"])]) hp rfl
    have z1 := at_ 0 _ rfl
    have z2 := at_ 1 _ rfl
    have z3 := at_ 2 _ rfl
    have z4 := at_ 3 _ rfl
    have z5 := at_ 4 _ rfl
    have z6 := at_ 5 _ rfl
    have z7 := at_ 6 _ rfl
    have z8 := at_ 7 _ rfl
    have z9 := at_ 8 _ rfl
    have z10 := at_ 9 _ rfl
    have z11 := at_ 10 _ rfl
    have z12 := at_ 11 _ rfl
    have z13 := at_ 12 _ rfl
    have z14 := at_ 13 _ rfl
    have e0 : 0 ≤ c % 7 := by omega
    have e7 : c % 7 < 7 := by omega
    obtain ⟨x, hx, hm⟩ := atI_some (xs := [V.ref a3, .ref b1, .non, .ref c3, .ref d3, .ref e3, .str "A"]) (i := c % 7) e0 e7
    have hd : ∃ d, Den (updL H [(a1, .tup []), (a2, .tup [.str "a", .ref a1, .int 0]), (a3, .lst [.ref a2]), (b1, .tup []), (c1, .tup []), (c2, .tup [.str "A", .ref c1, .int (-1)]), (c3, .lst [.ref c2]), (d1, .lst [.str "'a"]), (d2, .tup [.str "A", .ref d1, .int 0]), (d3, .lst [.ref d2]), (e1, .tup []), (e2, .tup [.str "A", .ref e1, .int 0]), (e3, .lst [.ref e2, .non]), (w1, .lst [.ref a3, .ref b1, .non, .ref c3, .ref d3, .ref e3, .str "A"])]) x d ∧ d.short = true ∧ isGramD d = false := by
      simp only [List.mem_cons, List.not_mem_nil, or_false] at hm
      rcases hm with rfl | rfl | rfl | rfl | rfl | rfl | rfl
      · exact ⟨.lst [.tup [.str "a", .tup [], .int 0]], .lst (.inl z3) (.cons (.tup z2 (.cons (.str _) (.cons (.tup z1 .nil) (.cons (.int _) .nil)))) .nil), by decide +kernel, by decide +kernel⟩
      · exact ⟨.tup [], .tup z4 .nil, by decide +kernel, by decide +kernel⟩
      · exact ⟨.non, .non, by decide +kernel, by decide +kernel⟩
      · exact ⟨.lst [.tup [.str "A", .tup [], .int (-1)]], .lst (.inl z7) (.cons (.tup z6 (.cons (.str _) (.cons (.tup z5 .nil) (.cons (.int _) .nil)))) .nil), by decide +kernel, by decide +kernel⟩
      · exact ⟨.lst [.tup [.str "A", .lst [.str "'a"], .int 0]], .lst (.inl z10) (.cons (.tup z9 (.cons (.str _) (.cons (.lst (.inl z8) (.cons (.str _) .nil)) (.cons (.int _) .nil)))) .nil), by decide +kernel, by decide +kernel⟩
      · exact ⟨.lst [.tup [.str "A", .tup [], .int 0], .non], .lst (.inl z13) (.cons (.tup z12 (.cons (.str _) (.cons (.tup z11 .nil) (.cons (.int _) .nil)))) (.cons .non .nil)), by decide +kernel, by decide +kernel⟩
      · exact ⟨.str "A", .str _, by decide +kernel, by decide +kernel⟩
    obtain ⟨dx, denx, hshx, hno⟩ := hd
    have den1 := den.same sA
    have noG : ∀ {g : Gram}, dx = gramD g → okGram g = true → False := fun {g} e hg => by rw [e, isGramD_gramD, hg] at hno; cases hno
    refine ⟨_, rfl, _, _, rfl, rfl, (by show (0 : Int) < 7; decide), w1, _, _, x, rfl, rfl, SqL.of z14, hx, ?_⟩
    have fin_ : ∀ H1, Same (updL H [(a1, .tup []), (a2, .tup [.str "a", .ref a1, .int 0]), (a3, .lst [.ref a2]), (b1, .tup []), (c1, .tup []), (c2, .tup [.str "A", .ref c1, .int (-1)]), (c3, .lst [.ref c2]), (d1, .lst [.str "'a"]), (d2, .tup [.str "A", .ref d1, .int 0]), (d3, .lst [.ref d2]), (e1, .tup []), (e2, .tup [.str "A", .ref e1, .int 0]), (e3, .lst [.ref e2, .non]), (w1, .lst [.ref a3, .ref b1, .non, .ref c3, .ref d3, .ref e3, .str "A"])]) H1 → Plain H1 → Q (.bl true) H1 := fun H1 s p => q H1 (sA.trans s) p
    refine ⟨_, rfl, rfl, _, rfl, ite2 (fun h0 => ?_) fun h0 => ?_⟩
    · refine ⟨_, rfl, _, rfl, x, y, dx, d, rfl, denx, hshx, den1, hsh, hlen, pA, fun g eg hg => (noG eg hg).elim, fun _ H1 s1 p1 => .inl ⟨T.hitG, ?_⟩⟩
      exact ⟨_, rfl, rfl, fin_ _ s1 p1⟩
    refine ⟨_, rfl, rfl, _, rfl, ite2 (fun h1 => ?_) fun h1 => ?_⟩
    · refine ⟨_, rfl, _, rfl, x, y, dx, d, rfl, denx, hshx, den1, hsh, hlen, pA, fun g eg hg => (noG eg hg).elim, fun _ H1 s1 p1 => .inl ⟨T.hitG, ?_⟩⟩
      exact ⟨_, rfl, rfl, fin_ _ s1 p1⟩
    · refine ⟨_, rfl, _, rfl, x, y, dx, d, rfl, denx, hshx, den1, hsh, hlen, pA, fun g eg hg => (noG eg hg).elim, fun _ H1 s1 p1 => .inl ⟨T.hitG, ?_⟩⟩
      exact ⟨_, rfl, rfl, fin_ _ s1 p1⟩
end
end FR


set_option linter.all false
set_option maxRecDepth 100000
set_option maxHeartbeats 4000000
namespace FR
open PySem L2
theorem nd_K05c__law_way__law_grammar_here__law_row_here : (["_law_way", "_law_grammar_here", "_law_row_here"] : List Str).Nodup := by decide +kernel
theorem nd_K05c__law_number__law_grammar_here : (["_law_number", "_law_grammar_here"] : List Str).Nodup := by decide +kernel
def spWhole : Sp := fun vs H Q _ => ∃ i : Int, vs = [.int i] ∧ Q (.bl true) H
def spRight : Sp := fun vs H Q _ => ∃ (l : Addr) (y : V) (xs : List V) (g : Gram) (d : D) (odd : Bool), vs = [.ref l, y, .bl odd] ∧ H l = some (.lst xs) ∧ Dens H xs (g.map ruleD) ∧ okGram g = true ∧ Den H y d ∧ d.short = true ∧ (∀ ds, d = .lst ds → ds.length ≤ 1000) ∧ Plain H ∧
  ((odd = true ∧ readD g d = none) ∨ (odd = false ∧ ∃ (o : Addr) (is : List Int), y = .ref o ∧ H o = some (.lst (is.map V.int)) ∧ d = .lst (is.map D.int))) ∧ ∀ H', Same H H' → Plain H' → Q (.bl true) H'
theorem seq_setV {u : TS} {D : Ends} {σ : St} {H : Hp} {v : V} {i : Nat} (h : u D (σ.set i (some v)) H) : tSeq (tAsg (tC v) (gName i)) u D σ H := h
section
variable {P : Program} {w : World} {K : PySem.W.Frag} {mg : Str → Option Value} {base : Heap} {C : Adr}
theorem sc__law_whole : FnScope ["_law_found"] ["_law_found"] (defScope s__law_whole) := ⟨rfl, rfl, rfl, by decide +kernel, rfl, by decide +kernel, by decide +kernel⟩
theorem ok__law_whole {f : Addr} {fd : FuncData} (F : Fun K "_law_whole" "_law_whole" s__law_whole f fd) (T : Txt K mg C) : FnOk P w K mg base CX0 1 f fd ["_law_found"] (spWhole) := by
  refine F.ok sc__law_whole (fun vs H Q E h => ?_) (fun cdv A outer s H vs Q E hr h => ?_)
  · obtain ⟨i, rfl, _⟩ := h
    rfl
  · obtain ⟨i, rfl, q⟩ := h
    refine ⟨_, (pss_one (ps_ret (pe_and (pe_callB (call_isiK K rfl) (by rfl) T.z_isinstance PyProof.Rows.Boot.«isinstance» (pa_cons (pv 0) (pa_cons (pe_bltn (v := .ty "int") (by rfl) T.z_int PyProof.Rows.Boot.«int» rfl) pa_nil))) (pe_one (pe_not (pe_callB (call_isiK K rfl) (by rfl) T.z_isinstance PyProof.Rows.Boot.«isinstance» (pa_cons (pv 0) (pa_cons (pe_bltn (v := .ty "bool") (by rfl) T.z_bool PyProof.Rows.Boot.«bool» rfl) pa_nil)))))))), ?_⟩
    exact ⟨_, rfl, _, _, _, _, _, rfl, .int _, rfl, kit_int (.int i), _, rfl, iteT ⟨_, rfl, _, _, _, _, _, rfl, .int _, rfl, kit_bool (.int i), _, rfl, q⟩⟩
theorem sc__law_right : FnScope ["_law_grammar_here", "_law_row_here", "_law_odd", "_law_signs_here", "_law_found"] ["_law_grammar_here", "_law_row_here", "_law_odd"] (defScope s__law_right) := ⟨rfl, rfl, rfl, by decide +kernel, rfl, by decide +kernel, by decide +kernel⟩
theorem ok__law_right {f : Addr} {fd : FuncData} (F : Fun K "_law_right" "_law_right" s__law_right f fd) (T : Txt K mg C) (U__law_read : Used P w K mg CX0 1 "_law_read" ["_law_grammar_here", "_law_row_here"] (spRead)) (U__law_asked : Used P w K mg CX0 9 "_law_asked" ["_law_grammar_here", "_law_row_here", "_law_way"] (spAsked)) (U__law_whole : Used P w K mg CX0 1 "_law_whole" ["_law_found"] (spWhole)) : FnOk P w K mg base CX0 10 f fd ["_law_grammar_here", "_law_row_here", "_law_odd"] (spRight) := by
  obtain ⟨f__law_read, fd__law_read, G__law_read, m__law_read, k__law_read, b__law_read⟩ := U__law_read.ok
  obtain ⟨f__law_asked, fd__law_asked, G__law_asked, m__law_asked, k__law_asked, b__law_asked⟩ := U__law_asked.ok
  obtain ⟨f__law_whole, fd__law_whole, G__law_whole, m__law_whole, k__law_whole, b__law_whole⟩ := U__law_whole.ok
  refine F.ok sc__law_right (fun vs H Q E h => ?_) (fun cdv A outer s H vs Q E hr h => ?_)
  · obtain ⟨l, y, xs, g, d, odd, rfl, _⟩ := h
    rfl
  · obtain ⟨l, y, xs, g, d, odd, rfl, hl, hds, hg, den, hsh, hlen, hp, hodd, q⟩ := h
    have hu := hu_of hr
    have hU := hr.units
    refine qex ?_
    refine ⟨_, (qss_cons (qs_set (i := 3) sc__law_right.nd rfl (Or.inl rfl) qe_non)
      (qss_cons ⟨(ps_if (pt_not (pt_val (pv 2))) (pss_one (ps_set (i := 3) sc__law_right.nd rfl (Or.inl rfl) (pe_call (G__law_read base) (hr.mono (by decide)) (by rfl) m__law_read k__law_read b__law_read .nil pass0 (pa_cons (pv 0) (pa_cons (pv 1) pa_nil))))) pss_nil)⟩
      (qss_cons ⟨(ps_setC (N := ["_law_way", "_law_grammar_here", "_law_row_here"]) (ρ := [none, some 0, some 1]) (i := 4) sc__law_right.nd rfl rfl rfl (CompScope.closes ["_law_grammar_here", "_law_row_here", "_law_odd", "_law_signs_here", "_law_found"] (defScope s__law_right).names rfl rfl rfl rfl (by decide +kernel) (by decide +kernel) (fun x h => cell_has h) (by decide +kernel) rfl (by decide +kernel)) (pi_range1 rfl T.z_range (pa_cons pe_int pa_nil)) (fun _ _ _ _ _ => (pg_name (i := 0) nd_K05c__law_way__law_grammar_here__law_row_here rfl (Or.inl rfl) (.inr rfl))) (fun _ _ _ _ _ => pts_nil) (fun _ _ _ _ _ => (pe_call (G__law_asked base) (hr.mono (by decide)) (by rfl) m__law_asked k__law_asked b__law_asked .nil pass0 (pa_cons (pv 1) (pa_cons (pv 2) (pa_cons (pv 0) pa_nil))))))⟩
      (qss_cons ⟨(ps_if (pt_cmpR op_isN (pv 3) pe_non (nomark _)) (pss_one (ps_ret (pe_cmpR (op_eq_deep K rfl hU) (pv 4) (pe_lst (pa_cons (pe_lst (pa_cons pe_int pa_nil)) (pa_cons (pe_lst (pa_cons pe_int pa_nil)) (pa_cons (pe_lst (pa_cons pe_int pa_nil)) pa_nil)))) (nomark _)))) pss_nil)⟩
      (qss_cons ⟨(ps_if (PW.pt (pw_or (pt_not (pt_val (pe_callB (call_isiK K rfl) (by rfl) T.z_isinstance PyProof.Rows.Boot.«isinstance» (pa_cons (pe_ix (ix_listK K rfl) (pv 4) pe_int (fun _ _ => rfl)) (pa_cons (pe_bltn (v := .ty "str") (by rfl) T.z_str PyProof.Rows.Boot.«str» rfl) pa_nil))))) (pw_or1 (pt_not (pt_val (pe_call (G__law_whole base) (hr.mono (by decide)) (by rfl) m__law_whole k__law_whole b__law_whole .nil pass0 (pa_cons (pe_ix (ix_listK K rfl) (pv 4) pe_int (fun _ _ => rfl)) pa_nil))))))) (pss_one (ps_ret pe_bl)) pss_nil)⟩
      (qss_one ⟨(ps_ret (pe_cmpR (op_eq_deep K rfl hU) (pv 4) (pe_lst (pa_cons (pv 3) (pa_cons (pe_callB (call_sum rfl) (by rfl) T.z_sum PyProof.Rows.Boot.«sum» (pa_cons (pe_comp (N := ["_law_number", "_law_grammar_here"]) (ρ := [none, some 0]) rfl (CompScope.closes ["_law_grammar_here", "_law_row_here", "_law_odd", "_law_signs_here", "_law_found"] (defScope s__law_right).names rfl rfl rfl rfl (by decide +kernel) (by decide +kernel) (fun x h => cell_has h) (by decide +kernel) rfl (by decide +kernel)) (pi_listK K rfl (pv 1)) (fun _ _ _ _ _ => (pg_name (i := 0) nd_K05c__law_number__law_grammar_here rfl (Or.inl rfl) (.inr rfl))) (fun _ _ _ _ _ => pts_nil) (fun _ _ _ _ _ => (pe_ix (ix_tupK K rfl) (pe_ix (ix_listK K rfl) (pv 1) (pv 0) (fun _ _ => rfl)) pe_int (fun _ _ => rfl)))) pa_nil)) (pa_cons (pe_callB (call_len_seqK K rfl) (by rfl) T.z_len PyProof.Rows.Boot.«len» (pa_cons (pv 1) pa_nil)) pa_nil)))) (nomark _)))⟩)))))), ?_⟩
    refine seq_setV ?_
    refine seq_rest (t := tIfS _ _ _) (fun σ' H' => ∃ v, σ' = [some (.ref l), some y, some (.bl odd), some v, none] ∧ ((readD g d = none ∧ v = .non) ∨ ∃ (o : Addr) (is : List Int) (rd : Rdg), y = .ref o ∧ H o = some (.lst (is.map V.int)) ∧ d = .lst (is.map D.int) ∧ readG g (is.map D.int) = some rd ∧ v = .str ⟨rd.sg.toArray⟩) ∧ Same H H' ∧ Plain H') ?_ fun rest => ?_
    · rintro σ' H1 ⟨v, rfl, hv, s1, p1⟩
      have hl1 := s1 _ _ hl
      have hds1 := hds.same s1
      have den1 := den.same s1
      have hlen2 : ∀ ds, d = .lst ds → ds.length ≤ 2000 := fun ds e => Nat.le_trans (hlen ds e) (by decide)
      have denG : Den H1 (.ref l) (gramD g) := .lst (.inl hl1) hds1
      rcases hv with ⟨hno, rfl⟩ | ⟨o, is, rd, rfl, ho, rfl, er, rfl⟩
      · refine ⟨3, rfl, (in62 (by decide) (by decide)).1, (in62 (by decide) (by decide)).2, fun lc hlc => ?_⟩
        refine comp_items (n := 3) 0 (fun _ z Hx => Den Hx z (.lst [.int 2])) gives_range (fun _ _ _ _ s h => h.same s) p1 hlc (by show 0 < 3; decide) (line1000 (by decide)) (fun τ' => ∃ v, τ' = [v, some (.ref l), some y]) ⟨_, rfl⟩ ?_ ?_ ?_
        · rintro τ' v ⟨w, rfl⟩
          exact ⟨v, rfl⟩
        · rintro τ' j x H' R ⟨w, rfl⟩ hτ hit hj hs hp' hlne hR
          have ew : w = some x := by simpa using hτ
          subst ew hit
          refine ⟨_, rfl, _, rfl, _, rfl, .ref l, y, g, d, _, rfl, denG.same hs, hg, den1.same hs, hsh, hlen2, hp', fun _ o H2 s2 p2 ho0 ho2 => ?_, fun ds rd H2 ed er s2 p2 => ?_⟩
          · exact hR _ _ s2 p2 (.lst (.inl (newIn_del hlne _ _ (newIn_at ho0 ho2))) (.cons (.int _) .nil))
          · rw [ed] at hno
            have hno : readG g ds = none := hno
            rw [er] at hno
            cases hno
        · intro ys H2 hy hP s2 p2 hl2
          have dys : Dens H2 ys [.lst [.int 2], .lst [.int 2], .lst [.int 2]] := .of_all (by rw [hy]; rfl) fun i v d e1 e2 => by
            have h1 := (hP i v e1).same (del_same _ _)
            have h2 : d = .lst [.int 2] := List.eq_of_mem_replicate (n := 3) (List.mem_of_getElem? e2)
            rw [h2]
            exact h1
          have den4 : Den H2 (.ref lc) (.lst [.lst [.int 2], .lst [.int 2], .lst [.int 2]]) := .lst (.inl hl2) dys
          refine ⟨_, rfl, rfl, _, rfl, iteT ⟨_, rfl, line1000 (by show 1 ≤ 1000; decide), fun e1 he1 => ⟨line1000 (by show 1 ≤ 1000; decide), fun e2 he2 => ⟨line1000 (by show 1 ≤ 1000; decide), fun e3 he3 => ⟨line1000 (by show 3 ≤ 1000; decide), fun e4 he4 => ?_⟩⟩⟩⟩⟩
          have u1 := Same.upd (o := .lst [.int 2]) he1
          have u2 := Same.upd (o := .lst [.int 2]) he2
          have u3 := Same.upd (o := .lst [.int 2]) he3
          have u4 := Same.upd (o := .lst [.ref e1, .ref e2, .ref e3]) he4
          have u14 := u1.trans (u2.trans (u3.trans u4))
          have ok4 : (D.lst [.lst [.int 2], .lst [.int 2], .lst [.int 2]]).ok = true := by decide +kernel
          refine ⟨_, .lst [.lst [.int 2], .lst [.int 2], .lst [.int 2]], den4.same u14, .lst (.inl upd_same) (.cons (.lst (.inl (u4 _ _ (u3 _ _ (u2 _ _ upd_same)))) (.cons (.int _) .nil)) (.cons (.lst (.inl (u4 _ _ (u3 _ _ upd_same))) (.cons (.int _) .nil)) (.cons (.lst (.inl (u4 _ _ upd_same)) (.cons (.int _) .nil)) .nil))), ok4, ok4, by decide +kernel, ?_⟩
          rw [eqD_refl _ ok4]
          exact q _ (s1.trans (s2.trans u14)) ((((p2.upd rfl).upd rfl).upd rfl).upd rfl)
      · refine ⟨3, rfl, (in62 (by decide) (by decide)).1, (in62 (by decide) (by decide)).2, fun lc hlc => ?_⟩
        refine comp_items (n := 3) 0 (fun k z _ => z = ansV g (is.map D.int) rd (0 + (k : Int))) gives_range (fun _ _ _ _ _ h => h) p1 hlc (by show 0 < 3; decide) (line1000 (by decide)) (fun τ' => ∃ v, τ' = [v, some (.ref l), some (.ref o)]) ⟨_, rfl⟩ ?_ ?_ ?_
        · rintro τ' v ⟨w, rfl⟩
          exact ⟨v, rfl⟩
        · rintro τ' j x H' R ⟨w, rfl⟩ hτ hit hj hs hp' hlne hR
          have ew : w = some x := by simpa using hτ
          subst ew hit
          refine ⟨_, rfl, _, rfl, _, rfl, .ref l, .ref o, g, .lst (is.map D.int), _, rfl, denG.same hs, hg, den1.same hs, hsh, hlen2, hp', fun hno o H2 s2 p2 ho0 ho2 => ?_, fun ds rd' H2 ed er' s2 p2 => ?_⟩
          · have hno : readG g (is.map D.int) = none := hno
            rw [er] at hno
            cases hno
          · cases ed
            rw [er] at er'
            cases er'
            exact hR _ _ s2 p2 rfl
        · intro ys H2 hy hP s2 p2 hl2
          obtain ⟨y0, y1, y2, rfl⟩ : ∃ y0 y1 y2, ys = [y0, y1, y2] := by
            match ys, hy with
            | [a, b, c], _ => exact ⟨a, b, c, rfl⟩
          have z0 : y0 = .str ⟨rd.sg.toArray⟩ := hP 0 _ rfl
          have z1 : y1 = .int ((is.map D.int).map (wOf g)).sum := hP 1 _ rfl
          have z2 : y2 = .int ((is.map D.int).length : Int) := hP 2 _ rfl
          subst z0 z1 z2
          have ho2 := (s1.trans s2) _ _ ho
          have hl2' := s2 _ _ hl1
          have hds2 := hds1.same s2
          refine ⟨_, rfl, rfl, _, rfl, iteF ?_⟩
          refine ⟨_, rfl, lc, _, 0, _, rfl, rfl, SqL.of hl2, rfl, _, _, _, _, _, rfl, .str _, rfl, kit_str (.str ⟨rd.sg.toArray⟩), _, rfl, iteF ?_⟩
          refine ⟨_, rfl, lc, _, 1, _, rfl, rfl, SqL.of hl2, rfl, _, rfl, _, rfl, iteF ?_⟩
          refine ⟨_, rfl, _, rfl, _, rfl, o, rfl, ⟨_, SqL.of ho2⟩, fun ln hln => ?_⟩
          have hJ2 := (gives_list (K := K) (SqL.of ho2)).g
          rw [List.length_map] at hJ2
          have hil : is.length ≤ 1000 := by have := hlen _ rfl; rwa [List.length_map] at this
          refine comp_fm is (fun i => some (.int (wOf g (.int i)))) hJ2 p2 hln (line1000 hil) (fun τ' => ∃ v, τ' = [v, some (.ref l)]) ⟨_, rfl⟩ ?_ ?_
          · rintro τ' k i v H3 Q1 Q2 ⟨v0, rfl⟩ hd hit hs hp' hQ1 hQ2
            obtain ⟨r, hr⟩ := read_nums hg er (.int i) (List.mem_map.mpr ⟨i, List.mem_of_getElem? hd, rfl⟩)
            obtain ⟨kk, ek, er2⟩ := numD_int hr
            cases ek
            rw [List.getElem?_map, hd] at hit
            cases hit
            obtain ⟨t, pp, ax, ht, hpp⟩ := rule_num (hds2.same hs) er2
            exact ⟨_, rfl, _, rfl, l, _, _, _, rfl, rfl, SqL.of (hs _ _ hl2'), ax, t, _, 2, _, rfl, rfl, SqT.of ht, rfl, hQ1 _ _ _ ⟨_, rfl⟩ (Same.refl _) hp' (by unfold wOf; rw [hr])⟩
          intro H5 s5 p5 h5
          have ei : is.filterMap (fun i => some (V.int (wOf g (.int i)))) = (is.map fun i => wOf g (.int i)).map V.int := by
            rw [List.map_map, ← List.filterMap_eq_map]
            rfl
          rw [ei] at h5
          refine ⟨ln, _, rfl, SqL.of h5, _, rfl, o, _, rfl, .inl (SqL.of (s5 _ _ ho2)), line1000 (by show 3 ≤ 1000; decide), fun e4 he4 => ?_⟩
          have u4 := Same.upd (o := .lst [.str ⟨rd.sg.toArray⟩, .int (is.map fun i => wOf g (.int i)).sum, .int ((is.map V.int).length : Int)]) he4
          have esum : ((is.map D.int).map (wOf g)).sum = (is.map fun i => wOf g (.int i)).sum := by rw [List.map_map]; rfl
          have elen : ((is.map D.int).length : Int) = ((is.map V.int).length : Int) := by rw [List.length_map, List.length_map]
          have okA : (D.lst [.str ⟨rd.sg.toArray⟩, .int (is.map fun i => wOf g (.int i)).sum, .int ((is.map V.int).length : Int)]).ok = true := by
            unfold D.ok okS okS okS okS D.ok
            rfl
          refine ⟨.lst [.str ⟨rd.sg.toArray⟩, .int (is.map fun i => wOf g (.int i)).sum, .int ((is.map V.int).length : Int)], .lst [.str ⟨rd.sg.toArray⟩, .int (is.map fun i => wOf g (.int i)).sum, .int ((is.map V.int).length : Int)], .lst (.inl (u4 _ _ (s5 _ _ hl2))) (.cons (.str _) (.cons (by rw [esum]; exact .int _) (.cons (by rw [elen]; exact .int _) .nil))), .lst (.inl upd_same) (.cons (.str _) (.cons (.int _) (.cons (.int _) .nil))), okA, okA, ?_, ?_⟩
          · exact Nat.le_trans (dep_lst (n := 0) fun d hd => by
              simp only [List.mem_cons, List.not_mem_nil, or_false] at hd
              rcases hd with rfl | rfl | rfl <;> (unfold D.dep; exact Nat.le_refl _)) (by decide)
          · rw [eqD_refl _ okA]
            exact q _ (s1.trans (s2.trans (s5.trans u4))) (p5.upd rfl)
    · rcases hodd with ⟨rfl, hno⟩ | ⟨rfl, o, is, rfl, ho, rfl⟩
      · exact ⟨_, rfl, _, rfl, iteF (rest _ _ ⟨_, rfl, .inl ⟨hno, rfl⟩, Same.refl _, hp⟩)⟩
      · refine ⟨_, rfl, _, rfl, iteT ⟨_, rfl, _, rfl, l, o, xs, g, is, rfl, hl, hds, hg, ho, by have := hlen _ rfl; rwa [List.length_map] at this, hp, fun rd H1 er s1 p1 => ?_, fun hn H1 s1 p1 => ?_⟩⟩
        · exact rest _ _ ⟨_, rfl, .inr ⟨o, is, rd, rfl, ho, rfl, er, rfl⟩, s1, p1⟩
        · exact rest _ _ ⟨_, rfl, .inl ⟨hn, rfl⟩, s1, p1⟩
end
end FR


set_option linter.all false
set_option maxRecDepth 100000
set_option maxHeartbeats 4000000
namespace FR
open PySem L2

theorem dens_ints_inv {H : Hp} : ∀ {xs : List V} {is : List Int}, Dens H xs (is.map D.int) → xs = is.map V.int
  | [], [], _ => rfl
  | [], _ :: _, h => by unfold Dens at h; exact h.elim
  | _ :: _, [], h => by unfold Dens at h; exact h.elim
  | x :: xs, i :: is, h => by
    unfold Dens at h
    rw [h.1.to_int, dens_ints_inv h.2]
    rfl
theorem short_ints5 (is : List Int) : (D.lst (is.map D.int)).short = true := by
  unfold D.short
  refine shortS_of fun d hd => ?_
  obtain ⟨k, _, rfl⟩ := List.mem_map.mp hd
  unfold D.short
  rfl
theorem intD_ints (ks : List Nat) : ks.map intD = (ks.map fun k : Nat => (k : Int)).map D.int := by rw [List.map_map]; rfl
theorem ch_ints {ks : List Nat} {wy : Int} {at_ : Nat} {nu : Int} (h0 : 0 ≤ wy) (h5 : wy ≤ 5) : ∃ is : List Int, chD ks wy at_ nu = .lst (is.map D.int) ∧ is.length ≤ 2 * ks.length + 1 := by
  have h : wy = 0 ∨ wy = 1 ∨ wy = 2 ∨ wy = 3 ∨ wy = 4 ∨ wy = 5 := by omega
  rcases h with rfl | rfl | rfl | rfl | rfl | rfl
  · refine ⟨(ks.take at_).map (fun k : Nat => (k : Int)) ++ (ks.drop (at_ + 1)).map (fun k : Nat => (k : Int)), ?_, ?_⟩
    · show D.lst ((ks.take at_).map intD ++ (ks.drop (at_ + 1)).map intD) = _
      rw [List.map_append, intD_ints, intD_ints]
    · rw [List.length_append, List.length_map, List.length_map, List.length_take, List.length_drop]; omega
  · refine ⟨(ks.take at_).map (fun k : Nat => (k : Int)) ++ [nu] ++ (ks.drop at_).map (fun k : Nat => (k : Int)), ?_, ?_⟩
    · show D.lst ((ks.take at_).map intD ++ [.int nu] ++ (ks.drop at_).map intD) = _
      rw [List.map_append, List.map_append, intD_ints, intD_ints]
      rfl
    · rw [List.length_append, List.length_append, List.length_map, List.length_map, List.length_take, List.length_drop]; show _ + 1 + _ ≤ _; omega
  · refine ⟨(ks.take at_).map (fun k : Nat => (k : Int)) ++ [nu] ++ (ks.drop (at_ + 1)).map (fun k : Nat => (k : Int)), ?_, ?_⟩
    · show D.lst ((ks.take at_).map intD ++ [.int nu] ++ (ks.drop (at_ + 1)).map intD) = _
      rw [List.map_append, List.map_append, intD_ints, intD_ints]
      rfl
    · rw [List.length_append, List.length_append, List.length_map, List.length_map, List.length_take, List.length_drop]; show _ + 1 + _ ≤ _; omega
  · refine ⟨(ks.take at_).map (fun k : Nat => (k : Int)), ?_, ?_⟩
    · show D.lst ((ks.take at_).map intD) = _
      rw [intD_ints]
    · rw [List.length_map, List.length_take]; omega
  · refine ⟨ks.map (fun k : Nat => (k : Int)) ++ (ks.drop at_).map (fun k : Nat => (k : Int)), ?_, ?_⟩
    · show D.lst (ks.map intD ++ (ks.drop at_).map intD) = _
      rw [List.map_append, intD_ints, intD_ints]
    · rw [List.length_append, List.length_map, List.length_map, List.length_drop]; omega
  · refine ⟨ks.map (fun k : Nat => (k : Int)), ?_, ?_⟩
    · show D.lst (ks.map intD) = _
      rw [intD_ints]
    · rw [List.length_map]; omega
theorem it7 (nu : Int) : ∃ d : D, ([.bl true, .bl false, .str "0", .non, .tup [.int 0], .lst [.int 0]] : List D).getD (nu % 6).toNat .non = d ∧ d.short = true ∧ d.ok = true ∧ d.dep ≤ 1 ∧ ∀ i, d ≠ .int i := by
  have h : (nu % 6).toNat = 0 ∨ (nu % 6).toNat = 1 ∨ (nu % 6).toNat = 2 ∨ (nu % 6).toNat = 3 ∨ (nu % 6).toNat = 4 ∨ (nu % 6).toNat = 5 := by omega
  rcases h with h | h | h | h | h | h <;> rw [h]
  · exact ⟨.bl true, rfl, by decide +kernel, by decide +kernel, by decide +kernel, fun i e => by cases e⟩
  · exact ⟨.bl false, rfl, by decide +kernel, by decide +kernel, by decide +kernel, fun i e => by cases e⟩
  · exact ⟨.str "0", rfl, by decide +kernel, by decide +kernel, by decide +kernel, fun i e => by cases e⟩
  · exact ⟨.non, rfl, by decide +kernel, by decide +kernel, by decide +kernel, fun i e => by cases e⟩
  · exact ⟨.tup [.int 0], rfl, by decide +kernel, by decide +kernel, by decide +kernel, fun i e => by cases e⟩
  · exact ⟨.lst [.int 0], rfl, by decide +kernel, by decide +kernel, by decide +kernel, fun i e => by cases e⟩
theorem it6 (ks : List Nat) (at_ : Nat) : ∃ d : D, ([.tup (ks.map intD), .non, .str "0", .int 0, .bl true, .oth] : List D).getD (at_ % 6) .non = d ∧ d.short = true ∧ (d.ok = true ∨ d = .oth) ∧ d.dep ≤ 1 ∧ ∀ ds, d ≠ .lst ds := by
  have h : at_ % 6 = 0 ∨ at_ % 6 = 1 ∨ at_ % 6 = 2 ∨ at_ % 6 = 3 ∨ at_ % 6 = 4 ∨ at_ % 6 = 5 := by omega
  rcases h with h | h | h | h | h | h <;> rw [h]
  · refine ⟨.tup (ks.map intD), rfl, ?_, .inl (ok_tup fun d hd => ?_), dep_tup (n := 0) fun d hd => ?_, fun ds e => by cases e⟩
    · unfold D.short
      refine shortS_of fun d hd => ?_
      obtain ⟨k, _, rfl⟩ := List.mem_map.mp hd
      unfold intD D.short
      rfl
    · obtain ⟨k, _, rfl⟩ := List.mem_map.mp hd
      exact ok_int _
    · obtain ⟨k, _, rfl⟩ := List.mem_map.mp hd
      exact Nat.le_of_eq (dep_int _)
  · exact ⟨.non, rfl, by decide +kernel, .inl (by decide +kernel), by decide +kernel, fun i e => by cases e⟩
  · exact ⟨.str "0", rfl, by decide +kernel, .inl (by decide +kernel), by decide +kernel, fun i e => by cases e⟩
  · exact ⟨.int 0, rfl, by decide +kernel, .inl (by decide +kernel), by decide +kernel, fun i e => by cases e⟩
  · exact ⟨.bl true, rfl, by decide +kernel, .inl (by decide +kernel), by decide +kernel, fun i e => by cases e⟩
  · exact ⟨.oth, rfl, by decide +kernel, .inr rfl, by decide +kernel, fun i e => by cases e⟩

structure ChFx (wy : Int) (d : D) : Prop where
  sh : d.short = true
  len : ∀ ds, d = .lst ds → ds.length ≤ 1000
  ok : d.ok = true ∨ d = .oth
  dep : d.dep ≤ 64
  odd : 5 < wy → ∀ g, okGram g = true → readD g d = none
  nums : wy ≤ 5 → ∃ is : List Int, d = .lst (is.map D.int)
theorem ch_fx {ks : List Nat} {wy : Int} {at_ : Nat} {nu : Int} (h0 : 0 ≤ wy) (h7 : wy ≤ 7) (hk : ks.length ≤ 200) : ChFx wy (chD ks wy at_ nu) := by
  by_cases h5 : wy ≤ 5
  · obtain ⟨is, e, hl⟩ := ch_ints (ks := ks) (at_ := at_) (nu := nu) h0 h5
    rw [e]
    exact ⟨short_ints5 is, fun ds e => by cases e; rw [List.length_map]; omega, .inl (ok_ints is), dep_ints is, fun h => by omega, fun _ => ⟨is, rfl⟩⟩
  by_cases h6 : wy = 6
  · subst h6
    obtain ⟨d, e, h1, h2, h3, h4⟩ := it6 ks at_
    have e : chD ks 6 at_ nu = d := e
    rw [e]
    refine ⟨h1, fun ds e => (h4 ds e).elim, h2, Nat.le_trans h3 (by decide), fun _ g _ => ?_, fun h => by omega⟩
    cases d with
    | lst ds => exact (h4 ds rfl).elim
    | _ => rfl
  · have e7 : wy = 7 := by omega
    subst e7
    obtain ⟨x, e, h1, h2, h3, h4⟩ := it7 nu
    have e : chD ks 7 at_ nu = .lst ((ks.take at_).map intD ++ [x] ++ (ks.drop (at_ + 1)).map intD) := by
      rw [← e]
      rfl
    rw [e]
    have hm : ∀ d ∈ (ks.take at_).map intD ++ [x] ++ (ks.drop (at_ + 1)).map intD, d.short = true ∧ d.ok = true ∧ d.dep ≤ 1 := fun d hd => by
      have hi : ∀ k : Nat, (intD k).short = true ∧ (intD k).ok = true ∧ (intD k).dep ≤ 1 := fun k => ⟨by unfold intD D.short; rfl, ok_int _, by unfold intD; rw [dep_int]; decide⟩
      rw [List.mem_append, List.mem_append] at hd
      rcases hd with (hd | hd) | hd
      · obtain ⟨k, _, rfl⟩ := List.mem_map.mp hd
        exact hi k
      · cases List.mem_singleton.mp hd
        exact ⟨h1, h2, h3⟩
      · obtain ⟨k, _, rfl⟩ := List.mem_map.mp hd
        exact hi k
    refine ⟨by unfold D.short; exact shortS_of fun d hd => (hm d hd).1, fun ds e => ?_, .inl (ok_lst fun d hd => (hm d hd).2.1), Nat.le_trans (dep_lst (n := 1) fun d hd => (hm d hd).2.2) (by decide), fun _ g hg => ?_, fun h => by omega⟩
    · cases e
      rw [List.length_append, List.length_append, List.length_map, List.length_map, List.length_take, List.length_drop]
      show _ + 1 + _ ≤ _
      omega
    · cases hrd : readD g (.lst ((ks.take at_).map intD ++ [x] ++ (ks.drop (at_ + 1)).map intD)) with
      | none => rfl
      | some rd =>
        obtain ⟨r, hr⟩ := read_nums hg (rd := rd) hrd x (List.mem_append_left _ (List.mem_append_right _ (List.mem_singleton.mpr rfl)))
        obtain ⟨k, ek, _⟩ := numD_int hr
        exact (h4 _ ek).elim
theorem ChOk.den {H : Hp} {v : V} {wy : Int} {d : D} (h : ChOk H v wy d) : Den H v d := by
  rcases h with ⟨o, xs, ds, rfl, ho, rfl, hds⟩ | ⟨_, h, _⟩
  · exact .lst (.inl ho) hds
  · exact h
theorem ChOk.same {H H' : Hp} {v : V} {wy : Int} {d : D} (h : ChOk H v wy d) (s : Same H H') : ChOk H' v wy d := by
  rcases h with ⟨o, xs, ds, rfl, ho, rfl, hds⟩ | ⟨e, h, h2⟩
  · exact .inl ⟨o, xs, ds, rfl, s _ _ ho, rfl, hds.same s⟩
  · exact .inr ⟨e, h.same s, fun z => let ⟨a, e1, e2⟩ := h2 z; ⟨a, e1, s _ _ e2⟩⟩
theorem ChOk.right {H : Hp} {v : V} {wy : Int} {d : D} (h : ChOk H v wy d) (f : ChFx wy d) {g : Gram} (hg : okGram g = true) : (decide (5 < wy) = true ∧ readD g d = none) ∨ (decide (5 < wy) = false ∧ ∃ (o : Addr) (is : List Int), v = .ref o ∧ H o = some (.lst (is.map V.int)) ∧ d = .lst (is.map D.int)) := by
  by_cases h5 : 5 < wy
  · exact .inl ⟨decide_eq_true h5, f.odd h5 g hg⟩
  · refine .inr ⟨decide_eq_false h5, ?_⟩
    obtain ⟨is, e⟩ := f.nums (by omega)
    rcases h with ⟨o, xs, ds, rfl, ho, ed, hds⟩ | ⟨e6, _⟩
    · rw [e] at ed
      cases ed
      rw [dens_ints_inv hds] at ho
      exact ⟨o, is, rfl, ho, e⟩
    · omega
theorem ChOk.dict {H : Hp} {v : V} {wy : Int} {d : D} (h : ChOk H v wy d) (e : d = .oth) : ∃ a, v = .ref a ∧ H a = some (.dK []) := by
  rcases h with ⟨o, xs, ds, _, _, ed, _⟩ | ⟨_, _, h⟩
  · rw [e] at ed
    cases ed
  · exact h e
theorem nV_ints (ks : List Nat) : ks.map nV = (ks.map fun k : Nat => (k : Int)).map V.int := by rw [List.map_map]; rfl
section
variable {P : Program} {w : World} {K : PySem.W.Frag} {mg : Str → Option Value} {base : Heap} {C : Adr}
theorem sc_law : FnScope ["_law_script", "_law_grammar_here", "_law_row_here", "_law_cell", "_law_way", "_law_made", "_law_handed", "_law_asked_here", "_law_again"] ["_law_script"] (defScope s_law) := ⟨rfl, rfl, rfl, by decide +kernel, rfl, by decide +kernel, by decide +kernel⟩
theorem ok_law {f : Addr} {fd : FuncData} (F : Fun K "law" "law" s_law f fd) (T : Txt K mg C) (U__law_grammar : Used P w K mg CX0 3 "_law_grammar" ["_law_script"] (spGram K)) (U__law_row : Used P w K mg CX0 2 "_law_row" ["_law_grammar_here", "_law_cells", "_law_room"] (spRowL K)) (U__law_mixed : Used P w K mg CX0 2 "_law_mixed" ["_law_script", "_law_k"] (spMixed K)) (U__law_changed : Used P w K mg CX0 1 "_law_changed" ["_law_row_here", "_law_way", "_law_at", "_law_number"] (spChanged)) (U__law_right : Used P w K mg CX0 10 "_law_right" ["_law_grammar_here", "_law_row_here", "_law_odd"] (spRight)) (U__law_no_grammar : Used P w K mg CX0 9 "_law_no_grammar" ["_law_row_here", "_law_cell", "_law_way"] (spNoGram)) : FnOk P w K mg base CX0 11 f fd ["_law_script"] (spLaw K) := by
  obtain ⟨f__law_grammar, fd__law_grammar, G__law_grammar, m__law_grammar, k__law_grammar, b__law_grammar⟩ := U__law_grammar.ok
  obtain ⟨f__law_row, fd__law_row, G__law_row, m__law_row, k__law_row, b__law_row⟩ := U__law_row.ok
  obtain ⟨f__law_mixed, fd__law_mixed, G__law_mixed, m__law_mixed, k__law_mixed, b__law_mixed⟩ := U__law_mixed.ok
  obtain ⟨f__law_changed, fd__law_changed, G__law_changed, m__law_changed, k__law_changed, b__law_changed⟩ := U__law_changed.ok
  obtain ⟨f__law_right, fd__law_right, G__law_right, m__law_right, k__law_right, b__law_right⟩ := U__law_right.ok
  obtain ⟨f__law_no_grammar, fd__law_no_grammar, G__law_no_grammar, m__law_no_grammar, k__law_no_grammar, b__law_no_grammar⟩ := U__law_no_grammar.ok
  refine F.ok sc_law (fun vs H Q E h => ?_) (fun cdv A outer s H vs Q E hr h => ?_)
  · obtain ⟨a, ns, rfl, _⟩ := h
    rfl
  · obtain ⟨a, ns, rfl, hS, hn, hp, q⟩ := h
    have hu := hu_of hr
    have hU := hr.units
    refine qex ?_
    refine ⟨_, (qss_cons ⟨(ps_set (i := 1) sc_law.nd rfl (Or.inl rfl) (pe_call (G__law_grammar base) (hr.mono (by decide)) (by rfl) m__law_grammar k__law_grammar b__law_grammar .nil pass0 (pa_cons (pv 0) pa_nil)))⟩
      (qss_cons ⟨(ps_set (i := 2) sc_law.nd rfl (Or.inl rfl) (pe_call (G__law_row base) (hr.mono (by decide)) (by rfl) m__law_row k__law_row b__law_row .nil pass0 (pa_cons (pv 1) (pa_cons (pe_slice (sl_listK K rfl) (pv 0) (po_some pe_int) (po_some pe_int)) (pa_cons pe_int pa_nil)))))⟩
      (qss_cons ⟨(ps_set (i := 3) sc_law.nd rfl (Or.inl rfl) (pe_call (G__law_mixed base) (hr.mono (by decide)) (by rfl) m__law_mixed k__law_mixed b__law_mixed .nil pass0 (pa_cons (pv 0) (pa_cons pe_int pa_nil))))⟩
      (qss_cons ⟨(ps_set (i := 4) sc_law.nd rfl (Or.inl rfl) (pe_op op_mod (pv 3) pe_int))⟩
      (qss_cons ⟨(ps_set (i := 5) sc_law.nd rfl (Or.inl rfl) (pe_call (G__law_changed base) (hr.mono (by decide)) (by rfl) m__law_changed k__law_changed b__law_changed .nil pass0 (pa_cs (pe_callTy (call_list_ofK K rfl) (by rfl) T.z_list PyProof.Rows.Boot.«list» (pa_cons (pv 2) pa_nil)) (pa_cs (pv 4) (pa_cs (pe_op op_mod (pe_op op_fdiv (pv 3) pe_int) (pe_callB (call_len_seqK K rfl) (by rfl) T.z_len PyProof.Rows.Boot.«len» (pa_cons (pv 2) pa_nil))) (pa_cs (pe_op op_sub (pe_op op_mod (pe_op op_fdiv (pv 3) pe_int) (pe_op op_add (pe_callB (call_len_seqK K rfl) (by rfl) T.z_len PyProof.Rows.Boot.«len» (pa_cons (pv 1) pa_nil)) pe_int)) pe_int) pa_nil))))))⟩
      (qss_cons ⟨(ps_set (i := 6) sc_law.nd rfl (Or.inl rfl) (pv 1))⟩
      (qss_cons ⟨(ps_if (pt_cmpR op_eq (pe_op op_mod (pe_op op_fdiv (pv 3) pe_int) pe_int) pe_int (nomark _)) (pss_one (ps_set (i := 6) sc_law.nd rfl (Or.inl rfl) (pe_lst pa_nil))) pss_nil)⟩
      (qss_cons ⟨(ps_if (pt_not (pt_val (pe_call (G__law_right base) (hr.mono (by decide)) (by rfl) m__law_right k__law_right b__law_right .nil pass0 (pa_cons (pv 6) (pa_cons (pv 5) (pa_cons (pe_cmpR op_gt (pv 4) pe_int (nomark _)) pa_nil)))))) (pss_one (ps_ret pe_bl)) pss_nil)⟩
      (qss_cons ⟨(ps_for PassesOwn.never rfl (pi_range1 rfl T.z_range (pa_cons pe_int pa_nil)) (pg_name (i := 7) sc_law.nd rfl (Or.inl rfl)) (pss_one (ps_if (pt_not (pt_val (pe_call (G__law_no_grammar base) (hr.mono (by decide)) (by rfl) m__law_no_grammar k__law_no_grammar b__law_no_grammar .nil pass0 (pa_cons (pv 5) (pa_cons (pe_op op_fdiv (pv 3) pe_int) (pa_cons (pv 7) pa_nil)))))) (pss_one (ps_ret pe_bl)) pss_nil)))⟩
      (qss_cons ⟨(ps_set (i := 8) sc_law.nd rfl (Or.inl rfl) (pe_call (G__law_changed base) (hr.mono (by decide)) (by rfl) m__law_changed k__law_changed b__law_changed .nil pass0 (pa_cs (pe_callTy (call_list_ofK K rfl) (by rfl) T.z_list PyProof.Rows.Boot.«list» (pa_cons (pv 2) pa_nil)) (pa_cs (pv 4) (pa_cs (pe_op op_mod (pe_op op_fdiv (pv 3) pe_int) (pe_callB (call_len_seqK K rfl) (by rfl) T.z_len PyProof.Rows.Boot.«len» (pa_cons (pv 2) pa_nil))) (pa_cs (pe_op op_sub (pe_op op_mod (pe_op op_fdiv (pv 3) pe_int) (pe_op op_add (pe_callB (call_len_seqK K rfl) (by rfl) T.z_len PyProof.Rows.Boot.«len» (pa_cons (pv 1) pa_nil)) pe_int)) pe_int) pa_nil))))))⟩
      (qss_one ⟨(ps_ret (pe_and (pe_cmpR (op_eq_deepE K rfl hU) (pv 5) (pv 8) (nomark _)) (pe_one (pe_call (G__law_right base) (hr.mono (by decide)) (by rfl) m__law_right k__law_right b__law_right .nil pass0 (pa_cons (pv 1) (pa_cons (pv 2) (pa_cons pe_bl pa_nil)))))))⟩))))))))))), ?_⟩
    refine ⟨_, rfl, a, ns, rfl, hS, hn, hp, fun l xs g H1 hg hgk s1 p1 hl0 hl hds => ?_⟩
    obtain ⟨cs, ecs, hcs⟩ := cut_ints ns (some 10) (some 310)
    refine ⟨_, rfl, _, rfl, 10, rfl, 310, rfl, a, _, rfl, s1.seq hS, fun c hc => ?_⟩
    rw [ecs]
    have sc := Same.upd (o := .lst (cs.map V.int)) hc
    refine ⟨l, c, xs, g, cs, rfl, sc _ _ hl, hds.same sc, hg, hgk, SqL.of upd_same, by omega, p1.upd rfl, fun o r0 rest ks sg H2 eg hrow hsg hks s2 p2 ho0 ho => ?_⟩
    have s12 := sc.trans s2
    have hS2 := (s1.trans s12).seq hS
    have hl2 := s12 _ _ hl
    have hds2 := hds.same s12
    clear hds hl ho0 hl0 s12 sc s2 p1 s1 ecs
    have hxl : xs.length = g.length := by rw [hds2.len, List.length_map]
    have hk1 : 0 < ks.length := by
      have hr0 : okRule r0 = true := by
        refine rule_okB (i := 0) hg ?_
        rw [eg]
        rfl
      obtain ⟨k, ks', r, rfl, _⟩ := rowS_name (name_noQ (rule_head hr0)) hrow
      exact Nat.succ_pos _
    refine ⟨_, rfl, a, ns, 9, rfl, hS2, by decide, by decide, fun cl cl0 cl1 => ?_⟩
    refine ⟨_, rfl, _, _, rfl, rfl, (by show (0 : Int) < 8; decide), ?_⟩
    have w0 : 0 ≤ (cl % 8) := by omega
    have w7 : (cl % 8) ≤ 7 := by omega
    have hkl : (ks.map nV).length = ks.length := List.length_map ..
    have m0 : 0 ≤ cl / 8 % ((ks.map nV).length : Int) := Int.emod_nonneg _ (by omega)
    have m1 : cl / 8 % ((ks.map nV).length : Int) < ((ks.map nV).length : Int) := Int.emod_lt_of_pos _ (by omega)
    obtain ⟨at_, hat⟩ : ∃ at_ : Nat, cl / 8 % ((ks.map nV).length : Int) = (at_ : Int) := ⟨(cl / 8 % ((ks.map nV).length : Int)).toNat, by omega⟩
    have hat1 : at_ < ks.length := by omega
    refine ⟨_, rfl, o, _, rfl, .inl (SqL.of ho), fun o2 ho2 => ?_⟩
    have s3 := Same.upd (o := .lst (ks.map nV)) ho2
    refine ⟨_, rfl, _, rfl, _, _, rfl, rfl, ⟨by decide, by decide⟩, _, rfl, o, _, rfl, .inl (SqL.of (s3 _ _ ho)), _, _, rfl, rfl, (by show (0 : Int) < ((ks.map nV).length : Int); omega), ?_⟩
    refine ⟨_, rfl, _, _, rfl, rfl, ⟨by decide, by decide⟩, _, rfl, l, _, rfl, .inl (SqL.of (s3 _ _ hl2)), _, _, rfl, rfl, _, _, rfl, rfl, (by show (0 : Int) < (xs.length : Int) + 4; omega), _, _, rfl, rfl, ?_⟩
    have fx := fun nu : Int => ch_fx (ks := ks) (at_ := at_) (nu := nu) w0 w7 hks
    refine ⟨o2, ks, (cl % 8), at_, cl / 997 % ((xs.length : Int) + 4) - 2, (by show [V.ref o2, V.int (cl % 8), V.int (cl / 8 % ((ks.map nV).length : Int)), V.int (cl / 997 % ((xs.length : Int) + 4) - 2)] = _; rw [hat]; rfl), upd_same, hks, hat1, p2.upd rfl, fun v H3 hch s4 p3 => ?_⟩
    obtain ⟨nu, hnu⟩ : ∃ nu, cl / 997 % ((xs.length : Int) + 4) - 2 = nu := ⟨_, rfl⟩
    have fx := fx nu
    rw [hnu] at hch
    obtain ⟨d, hd⟩ : ∃ d, chD ks (cl % 8) at_ nu = d := ⟨_, rfl⟩
    rw [hd] at hch fx
    have s23 := s3.trans s4
    have hl3 := s23 _ _ hl2
    have hds3 := hds2.same s23
    have ho3 := s23 _ _ ho
    clear s3 s4 ho2 hl2 hds2 ho s23 hS2
    refine ⟨_, rfl, ?_⟩
    dsimp only [gName]
    refine seq_rest (t := tIfS _ _ _) (fun σ' H' => ∃ l' xs' g', σ' = [some (.ref a), some (.ref l), some (.ref o), some (.int cl), some (.int (cl % 8)), some v, some (.ref l'), none, none] ∧ H' l' = some (.lst xs') ∧ Dens H' xs' (g'.map ruleD) ∧ okGram g' = true ∧ Same H3 H' ∧ Plain H') ?_ fun rest => ?_
    · rintro σ' H4 ⟨l', xs', g', rfl, hl', hds', hg', s4, p4⟩
      have hlen2 : ∀ ds, d = .lst ds → ds.length ≤ 2000 := fun ds e => Nat.le_trans (fx.len ds e) (by decide)
      refine ⟨_, rfl, _, rfl, _, rfl, _, _, rfl, rfl, l', v, xs', g', d, decide (5 < (cl % 8)), rfl, hl', hds', hg', (hch.same s4).den, fx.sh, fx.len, p4, (hch.same s4).right fx hg', fun H5 s5 p5 => ⟨_, rfl, iteF ?_⟩⟩
      refine ⟨3, rfl, (in62 (by decide) (by decide)).1, (in62 (by decide) (by decide)).2, ?_⟩
      refine for_range (lo := 0) (n := 3) (fun i σ H' => Same H5 H' ∧ Plain H' ∧ ∃ v7, σ = [some (.ref a), some (.ref l), some (.ref o), some (.int cl), some (.int (cl % 8)), some v, some (.ref l'), v7, none]) ⟨Same.refl _, p5, none, rfl⟩ ?_ ?_
      · rintro i σ H6 hi ⟨s6, p6, v7, rfl⟩
        refine ⟨_, rfl, _, rfl, _, _, rfl, rfl, ⟨by decide, by decide⟩, _, rfl, v, d, _, _, rfl, (hch.same (s4.trans (s5.trans s6))).den, fx.sh, hlen2, p6, fun H7 s7 p7 => ⟨_, rfl, iteF ⟨s6.trans s7, p7, _, rfl⟩⟩⟩
      · rintro σ H6 ⟨s6, p6, v7, rfl⟩
        have s36 := s4.trans (s5.trans s6)
        have ho6 := s36 _ _ ho3
        have hl6 := s36 _ _ hl3
        have hds6 := hds3.same s36
        have hch6 := hch.same s36
        clear s4 s5 s6 hl' hds' p4 p5 hch hl3 hds3 ho3 s36
        refine ⟨_, rfl, o, _, rfl, .inl (SqL.of ho6), fun o3 ho3 => ?_⟩
        have s7 := Same.upd (o := .lst (ks.map nV)) ho3
        refine ⟨_, rfl, _, rfl, _, _, rfl, rfl, ⟨by decide, by decide⟩, _, rfl, o, _, rfl, .inl (SqL.of (s7 _ _ ho6)), _, _, rfl, rfl, (by show (0 : Int) < ((ks.map nV).length : Int); omega), ?_⟩
        refine ⟨_, rfl, _, _, rfl, rfl, ⟨by decide, by decide⟩, _, rfl, l, _, rfl, .inl (SqL.of (s7 _ _ hl6)), _, _, rfl, rfl, _, _, rfl, rfl, (by show (0 : Int) < (xs.length : Int) + 4; omega), _, _, rfl, rfl, ?_⟩
        refine ⟨o3, ks, cl % 8, at_, cl / 997 % ((xs.length : Int) + 4) - 2, (by show [V.ref o3, V.int (cl % 8), V.int (cl / 8 % ((ks.map nV).length : Int)), V.int (cl / 997 % ((xs.length : Int) + 4) - 2)] = _; rw [hat]; rfl), upd_same, hks, hat1, p6.upd rfl, fun v2 H8 hch2 s8 p8 => ?_⟩
        rw [hnu, hd] at hch2
        have s68 := s7.trans s8
        have hch8 := hch6.same s68
        rcases fx.ok with hok | hoth
        · refine ⟨_, rfl, _, rfl, .inl ⟨d, d, hch8.den, hch2.den, hok, hok, fx.dep, ?_⟩⟩
          rw [eqD_refl _ hok]
          exact ⟨_, rfl, iteT ⟨_, rfl, _, rfl, l, .ref o, xs, g, .lst ((ks.map fun k : Nat => (k : Int)).map D.int), false, rfl, s68 _ _ hl6, hds6.same s68, hg, .lst (.inl (s68 _ _ ho6)) (by rw [nV_ints]; exact Dens.ints _), short_ints5 _, fun ds e => by cases e; rw [List.length_map, List.length_map]; omega, p8, .inr ⟨rfl, o, _, rfl, by rw [← nV_ints]; exact s68 _ _ ho6, rfl⟩, fun H9 _ _ => q H9⟩⟩
        · obtain ⟨x1, rfl, e1⟩ := hch8.dict hoth
          obtain ⟨x2, rfl, e2⟩ := hch2.dict hoth
          exact ⟨_, rfl, _, rfl, .inr ⟨x1, x2, [], [], rfl, rfl, .inl e1, .inl e2, ⟨rfl, fun p hp => nomatch hp⟩, _, rfl, iteT ⟨_, rfl, _, rfl, l, .ref o, xs, g, .lst ((ks.map fun k : Nat => (k : Int)).map D.int), false, rfl, s68 _ _ hl6, hds6.same s68, hg, .lst (.inl (s68 _ _ ho6)) (by rw [nV_ints]; exact Dens.ints _), short_ints5 _, fun ds e => by cases e; rw [List.length_map, List.length_map]; omega, p8, .inr ⟨rfl, o, _, rfl, by rw [← nV_ints]; exact s68 _ _ ho6, rfl⟩, fun H9 _ _ => q H9⟩⟩⟩
    · refine ⟨_, rfl, _, _, rfl, rfl, ⟨by decide, by decide⟩, _, _, rfl, rfl, (by show (0 : Int) < 6; decide), rfl, _, rfl, ite2 (fun _ => ?_) fun _ => ?_⟩
      · exact ⟨Nat.zero_le _, fun e he => rest _ _ ⟨e, [], [], rfl, upd_same, .nil, by decide +kernel, Same.upd he, p3.upd rfl⟩⟩
      · exact rest _ _ ⟨l, xs, g, rfl, hl3, hds3, hg, Same.refl _, p3⟩
end
theorem all_mk {l : PySem.W.OpenLaw} {w : World} {K : PySem.W.Frag} {h : Heap} {mg : Str → Option Value} {fa c_NoGrammar c_NoRow c_Reading c_ForestError c_Barren c_Endless c_NoChange c_NoCosts c_NoNumber c_NoRule c_NoText c_NoWords c_TooGreat f0 f1 f2 f3 f4 f5 f6 f7 f8 f9 f10 f11 f12 f13 f14 f15 f16 f17 f18 f19 f20 f21 f22 f23 f24 f25 f26 f27 f28 f29 f30 f31 f32 f33 f34 f35 : Addr} (X : K.In h) (G : h.Ns mainGlobals mg) (hfa : mg "law" = some (.ref fa))
    {od0 od1 od2 od3 od4 od5 od6 od7 od8 od9 od10 od11 od12 od13 od14 od15 od16 od17 od18 od19 od20 od21 od22 od23 od24 od25 od26 od27 od28 od29 od30 od31 od32 od33 od34 od35 an0 an1 an2 an3 an4 an5 an6 an7 an8 an9 an10 an11 an12 an13 an14 an15 an16 an17 an18 an19 an20 an21 an22 an23 an24 an25 an26 an27 an28 an29 an30 an31 an32 an33 an34 an35 : Option Addr} {sl0 sl1 sl2 sl3 sl4 sl5 sl6 sl7 sl8 sl9 sl10 sl11 sl12 sl13 sl14 sl15 sl16 sl17 sl18 sl19 sl20 sl21 sl22 sl23 sl24 sl25 sl26 sl27 sl28 sl29 sl30 sl31 sl32 sl33 sl34 sl35 : Array (Option Value)} {oc0 oc1 oc2 oc3 oc4 oc5 oc6 oc7 oc8 oc9 oc10 oc11 oc12 oc13 oc14 oc15 oc16 oc17 oc18 oc19 oc20 oc21 oc22 oc23 oc24 oc25 oc26 oc27 oc28 oc29 oc30 oc31 oc32 oc33 oc34 oc35 kV0 kV1 kV2 kV3 kV4 kV5 kV6 kV7 kV8 kV9 kV10 kV11 kV12 kV13 kV14 kV15 kV16 kV17 kV18 kV19 kV20 kV21 kV22 kV23 kV24 kV25 kV26 kV27 kV28 kV29 kV30 kV31 kV32 kV33 kV34 kV35 dc0 dc1 dc2 dc3 dc4 dc5 dc6 dc7 dc8 dc9 dc10 dc11 dc12 dc13 dc14 dc15 dc16 dc17 dc18 dc19 dc20 dc21 dc22 dc23 dc24 dc25 dc26 dc27 dc28 dc29 dc30 dc31 dc32 dc33 dc34 dc35 pm0 pm1 pm2 pm3 pm4 pm5 pm6 pm7 pm8 pm9 pm10 pm11 pm12 pm13 pm14 pm15 pm16 pm17 pm18 pm19 pm20 pm21 pm22 pm23 pm24 pm25 pm26 pm27 pm28 pm29 pm30 pm31 pm32 pm33 pm34 pm35 cd0 cd1 cd2 cd3 cd4 cd5 cd6 cd7 cd8 cd9 cd10 cd11 cd12 cd13 cd14 cd15 cd16 cd17 cd18 cd19 cd20 cd21 cd22 cd23 cd24 cd25 cd26 cd27 cd28 cd29 cd30 cd31 cd32 cd33 cd34 cd35 ct0 ct1 ct2 ct3 ct4 ct5 ct6 ct7 ct8 ct9 ct10 ct11 ct12 ct13 ct14 ct15 ct16 ct17 ct18 ct19 ct20 ct21 ct22 ct23 ct24 ct25 ct26 ct27 ct28 ct29 ct30 ct31 ct32 ct33 ct34 ct35 : Value} {tFIRST_CODE tLAST_CODE tPERCENT_CODE tMOST_LETTERS tMOST_PARTS tMOST_RULES : Tok}
    (nNoGrammar : PySem.W.nsIn K mainGlobals "NoGrammar" = some (some (.ref c_NoGrammar)))
    (nNoRow : PySem.W.nsIn K mainGlobals "NoRow" = some (some (.ref c_NoRow)))
    (nReading : PySem.W.nsIn K mainGlobals "Reading" = some (some (.ref c_Reading)))
    (nForestError : PySem.W.nsIn K mainGlobals "ForestError" = some (some (.ref c_ForestError)))
    (nBarren : PySem.W.nsIn K mainGlobals "Barren" = some (some (.ref c_Barren)))
    (nEndless : PySem.W.nsIn K mainGlobals "Endless" = some (some (.ref c_Endless)))
    (nNoChange : PySem.W.nsIn K mainGlobals "NoChange" = some (some (.ref c_NoChange)))
    (nNoCosts : PySem.W.nsIn K mainGlobals "NoCosts" = some (some (.ref c_NoCosts)))
    (nNoNumber : PySem.W.nsIn K mainGlobals "NoNumber" = some (some (.ref c_NoNumber)))
    (nNoRule : PySem.W.nsIn K mainGlobals "NoRule" = some (some (.ref c_NoRule)))
    (nNoText : PySem.W.nsIn K mainGlobals "NoText" = some (some (.ref c_NoText)))
    (nNoWords : PySem.W.nsIn K mainGlobals "NoWords" = some (some (.ref c_NoWords)))
    (nTooGreat : PySem.W.nsIn K mainGlobals "TooGreat" = some (some (.ref c_TooGreat)))
    (d0 : PySem.W.nsIn K mainGlobals "is_whole" = some (some (.ref f0)))
    (l0 : K.lookup f0 = some ⟨oc0, od0, .func (PySem.W.fnOf "is_whole" "is_whole" (defArgs s_is_whole) (defBody s_is_whole) (defScope s_is_whole) .none kV0 dc0 pm0 an0 cd0 ct0), sl0⟩)
    (c0 : PySem.W.codeIn K cd0 "is_whole" = true)
    (k0 : PySem.W.keepIn K (.ref f0) = true)
    (d1 : PySem.W.nsIn K mainGlobals "stands_in_texts" = some (some (.ref f1)))
    (l1 : K.lookup f1 = some ⟨oc1, od1, .func (PySem.W.fnOf "stands_in_texts" "stands_in_texts" (defArgs s_stands_in_texts) (defBody s_stands_in_texts) (defScope s_stands_in_texts) .none kV1 dc1 pm1 an1 cd1 ct1), sl1⟩)
    (c1 : PySem.W.codeIn K cd1 "stands_in_texts" = true)
    (k1 : PySem.W.keepIn K (.ref f1) = true)
    (d2 : PySem.W.nsIn K mainGlobals "is_sign" = some (some (.ref f2)))
    (l2 : K.lookup f2 = some ⟨oc2, od2, .func (PySem.W.fnOf "is_sign" "is_sign" (defArgs s_is_sign) (defBody s_is_sign) (defScope s_is_sign) .none kV2 dc2 pm2 an2 cd2 ct2), sl2⟩)
    (c2 : PySem.W.codeIn K cd2 "is_sign" = true)
    (k2 : PySem.W.keepIn K (.ref f2) = true)
    (d3 : PySem.W.nsIn K mainGlobals "is_name" = some (some (.ref f3)))
    (l3 : K.lookup f3 = some ⟨oc3, od3, .func (PySem.W.fnOf "is_name" "is_name" (defArgs s_is_name) (defBody s_is_name) (defScope s_is_name) .none kV3 dc3 pm3 an3 cd3 ct3), sl3⟩)
    (c3 : PySem.W.codeIn K cd3 "is_name" = true)
    (k3 : PySem.W.keepIn K (.ref f3) = true)
    (d4 : PySem.W.nsIn K mainGlobals "is_part" = some (some (.ref f4)))
    (l4 : K.lookup f4 = some ⟨oc4, od4, .func (PySem.W.fnOf "is_part" "is_part" (defArgs s_is_part) (defBody s_is_part) (defScope s_is_part) .none kV4 dc4 pm4 an4 cd4 ct4), sl4⟩)
    (c4 : PySem.W.codeIn K cd4 "is_part" = true)
    (k4 : PySem.W.keepIn K (.ref f4) = true)
    (d5 : PySem.W.nsIn K mainGlobals "is_worth" = some (some (.ref f5)))
    (l5 : K.lookup f5 = some ⟨oc5, od5, .func (PySem.W.fnOf "is_worth" "is_worth" (defArgs s_is_worth) (defBody s_is_worth) (defScope s_is_worth) .none kV5 dc5 pm5 an5 cd5 ct5), sl5⟩)
    (c5 : PySem.W.codeIn K cd5 "is_worth" = true)
    (k5 : PySem.W.keepIn K (.ref f5) = true)
    (d6 : PySem.W.nsIn K mainGlobals "are_parts" = some (some (.ref f6)))
    (l6 : K.lookup f6 = some ⟨oc6, od6, .func (PySem.W.fnOf "are_parts" "are_parts" (defArgs s_are_parts) (defBody s_are_parts) (defScope s_are_parts) .none kV6 dc6 pm6 an6 cd6 ct6), sl6⟩)
    (c6 : PySem.W.codeIn K cd6 "are_parts" = true)
    (k6 : PySem.W.keepIn K (.ref f6) = true)
    (d7 : PySem.W.nsIn K mainGlobals "is_rule" = some (some (.ref f7)))
    (l7 : K.lookup f7 = some ⟨oc7, od7, .func (PySem.W.fnOf "is_rule" "is_rule" (defArgs s_is_rule) (defBody s_is_rule) (defScope s_is_rule) .none kV7 dc7 pm7 an7 cd7 ct7), sl7⟩)
    (c7 : PySem.W.codeIn K cd7 "is_rule" = true)
    (k7 : PySem.W.keepIn K (.ref f7) = true)
    (d8 : PySem.W.nsIn K mainGlobals "is_grammar" = some (some (.ref f8)))
    (l8 : K.lookup f8 = some ⟨oc8, od8, .func (PySem.W.fnOf "is_grammar" "is_grammar" (defArgs s_is_grammar) (defBody s_is_grammar) (defScope s_is_grammar) .none kV8 dc8 pm8 an8 cd8 ct8), sl8⟩)
    (c8 : PySem.W.codeIn K cd8 "is_grammar" = true)
    (k8 : PySem.W.keepIn K (.ref f8) = true)
    (d9 : PySem.W.nsIn K mainGlobals "checked" = some (some (.ref f9)))
    (l9 : K.lookup f9 = some ⟨oc9, od9, .func (PySem.W.fnOf "checked" "checked" (defArgs s_checked) (defBody s_checked) (defScope s_checked) .none kV9 dc9 pm9 an9 cd9 ct9), sl9⟩)
    (c9 : PySem.W.codeIn K cd9 "checked" = true)
    (k9 : PySem.W.keepIn K (.ref f9) = true)
    (a10 : PySem.W.findIn K (.ref c_Reading) "__init__" = some (some (.ref f10)))
    (j10 : PySem.W.isFn K (.ref f10) = true)
    (l10 : K.lookup f10 = some ⟨oc10, od10, .func (PySem.W.fnOf "__init__" "Reading.__init__" (defArgs s_Reading___init__) (defBody s_Reading___init__) (defScope s_Reading___init__) .none kV10 dc10 pm10 an10 cd10 ct10), sl10⟩)
    (c10 : PySem.W.codeIn K cd10 "Reading.__init__" = true)
    (k10 : PySem.W.keepIn K (.ref f10) = true)
    (a11 : PySem.W.findIn K (.ref c_Reading) "next_number" = some (some (.ref f11)))
    (j11 : PySem.W.isFn K (.ref f11) = true)
    (l11 : K.lookup f11 = some ⟨oc11, od11, .func (PySem.W.fnOf "next_number" "Reading.next_number" (defArgs s_Reading_next_number) (defBody s_Reading_next_number) (defScope s_Reading_next_number) .none kV11 dc11 pm11 an11 cd11 ct11), sl11⟩)
    (c11 : PySem.W.codeIn K cd11 "Reading.next_number" = true)
    (k11 : PySem.W.keepIn K (.ref f11) = true)
    (a12 : PySem.W.findIn K (.ref c_Reading) "take_rule" = some (some (.ref f12)))
    (j12 : PySem.W.isFn K (.ref f12) = true)
    (l12 : K.lookup f12 = some ⟨oc12, od12, .func (PySem.W.fnOf "take_rule" "Reading.take_rule" (defArgs s_Reading_take_rule) (defBody s_Reading_take_rule) (defScope s_Reading_take_rule) .none kV12 dc12 pm12 an12 cd12 ct12), sl12⟩)
    (c12 : PySem.W.codeIn K cd12 "Reading.take_rule" = true)
    (k12 : PySem.W.keepIn K (.ref f12) = true)
    (a13 : PySem.W.findIn K (.ref c_Reading) "take_all" = some (some (.ref f13)))
    (j13 : PySem.W.isFn K (.ref f13) = true)
    (l13 : K.lookup f13 = some ⟨oc13, od13, .func (PySem.W.fnOf "take_all" "Reading.take_all" (defArgs s_Reading_take_all) (defBody s_Reading_take_all) (defScope s_Reading_take_all) .none kV13 dc13 pm13 an13 cd13 ct13), sl13⟩)
    (c13 : PySem.W.codeIn K cd13 "Reading.take_all" = true)
    (k13 : PySem.W.keepIn K (.ref f13) = true)
    (d14 : PySem.W.nsIn K mainGlobals "read_row" = some (some (.ref f14)))
    (l14 : K.lookup f14 = some ⟨oc14, od14, .func (PySem.W.fnOf "read_row" "read_row" (defArgs s_read_row) (defBody s_read_row) (defScope s_read_row) .none kV14 dc14 pm14 an14 cd14 ct14), sl14⟩)
    (c14 : PySem.W.codeIn K cd14 "read_row" = true)
    (k14 : PySem.W.keepIn K (.ref f14) = true)
    (d15 : PySem.W.nsIn K mainGlobals "text_of" = some (some (.ref f15)))
    (l15 : K.lookup f15 = some ⟨oc15, od15, .func (PySem.W.fnOf "text_of" "text_of" (defArgs s_text_of) (defBody s_text_of) (defScope s_text_of) .none kV15 dc15 pm15 an15 cd15 ct15), sl15⟩)
    (c15 : PySem.W.codeIn K cd15 "text_of" = true)
    (k15 : PySem.W.keepIn K (.ref f15) = true)
    (d16 : PySem.W.nsIn K mainGlobals "worth_of" = some (some (.ref f16)))
    (l16 : K.lookup f16 = some ⟨oc16, od16, .func (PySem.W.fnOf "worth_of" "worth_of" (defArgs s_worth_of) (defBody s_worth_of) (defScope s_worth_of) .none kV16 dc16 pm16 an16 cd16 ct16), sl16⟩)
    (c16 : PySem.W.codeIn K cd16 "worth_of" = true)
    (k16 : PySem.W.keepIn K (.ref f16) = true)
    (d17 : PySem.W.nsIn K mainGlobals "spans_of" = some (some (.ref f17)))
    (l17 : K.lookup f17 = some ⟨oc17, od17, .func (PySem.W.fnOf "spans_of" "spans_of" (defArgs s_spans_of) (defBody s_spans_of) (defScope s_spans_of) .none kV17 dc17 pm17 an17 cd17 ct17), sl17⟩)
    (c17 : PySem.W.codeIn K cd17 "spans_of" = true)
    (k17 : PySem.W.keepIn K (.ref f17) = true)
    (d18 : PySem.W.nsIn K mainGlobals "_law_cell_at" = some (some (.ref f18)))
    (l18 : K.lookup f18 = some ⟨oc18, od18, .func (PySem.W.fnOf "_law_cell_at" "_law_cell_at" (defArgs s__law_cell_at) (defBody s__law_cell_at) (defScope s__law_cell_at) .none kV18 dc18 pm18 an18 cd18 ct18), sl18⟩)
    (c18 : PySem.W.codeIn K cd18 "_law_cell_at" = true)
    (k18 : PySem.W.keepIn K (.ref f18) = true)
    (d19 : PySem.W.nsIn K mainGlobals "_law_mixed" = some (some (.ref f19)))
    (l19 : K.lookup f19 = some ⟨oc19, od19, .func (PySem.W.fnOf "_law_mixed" "_law_mixed" (defArgs s__law_mixed) (defBody s__law_mixed) (defScope s__law_mixed) .none kV19 dc19 pm19 an19 cd19 ct19), sl19⟩)
    (c19 : PySem.W.codeIn K cd19 "_law_mixed" = true)
    (k19 : PySem.W.keepIn K (.ref f19) = true)
    (d20 : PySem.W.nsIn K mainGlobals "_law_signs" = some (some (.ref f20)))
    (l20 : K.lookup f20 = some ⟨oc20, od20, .func (PySem.W.fnOf "_law_signs" "_law_signs" (defArgs s__law_signs) (defBody s__law_signs) (defScope s__law_signs) .none kV20 dc20 pm20 an20 cd20 ct20), sl20⟩)
    (c20 : PySem.W.codeIn K cd20 "_law_signs" = true)
    (k20 : PySem.W.keepIn K (.ref f20) = true)
    (d21 : PySem.W.nsIn K mainGlobals "_law_names" = some (some (.ref f21)))
    (l21 : K.lookup f21 = some ⟨oc21, od21, .func (PySem.W.fnOf "_law_names" "_law_names" (defArgs s__law_names) (defBody s__law_names) (defScope s__law_names) .none kV21 dc21 pm21 an21 cd21 ct21), sl21⟩)
    (c21 : PySem.W.codeIn K cd21 "_law_names" = true)
    (k21 : PySem.W.keepIn K (.ref f21) = true)
    (d22 : PySem.W.nsIn K mainGlobals "_law_worth" = some (some (.ref f22)))
    (l22 : K.lookup f22 = some ⟨oc22, od22, .func (PySem.W.fnOf "_law_worth" "_law_worth" (defArgs s__law_worth) (defBody s__law_worth) (defScope s__law_worth) .none kV22 dc22 pm22 an22 cd22 ct22), sl22⟩)
    (c22 : PySem.W.codeIn K cd22 "_law_worth" = true)
    (k22 : PySem.W.keepIn K (.ref f22) = true)
    (d23 : PySem.W.nsIn K mainGlobals "_law_parts" = some (some (.ref f23)))
    (l23 : K.lookup f23 = some ⟨oc23, od23, .func (PySem.W.fnOf "_law_parts" "_law_parts" (defArgs s__law_parts) (defBody s__law_parts) (defScope s__law_parts) .none kV23 dc23 pm23 an23 cd23 ct23), sl23⟩)
    (c23 : PySem.W.codeIn K cd23 "_law_parts" = true)
    (k23 : PySem.W.keepIn K (.ref f23) = true)
    (d24 : PySem.W.nsIn K mainGlobals "_law_grammar" = some (some (.ref f24)))
    (l24 : K.lookup f24 = some ⟨oc24, od24, .func (PySem.W.fnOf "_law_grammar" "_law_grammar" (defArgs s__law_grammar) (defBody s__law_grammar) (defScope s__law_grammar) .none kV24 dc24 pm24 an24 cd24 ct24), sl24⟩)
    (c24 : PySem.W.codeIn K cd24 "_law_grammar" = true)
    (k24 : PySem.W.keepIn K (.ref f24) = true)
    (d25 : PySem.W.nsIn K mainGlobals "_law_shorts" = some (some (.ref f25)))
    (l25 : K.lookup f25 = some ⟨oc25, od25, .func (PySem.W.fnOf "_law_shorts" "_law_shorts" (defArgs s__law_shorts) (defBody s__law_shorts) (defScope s__law_shorts) .none kV25 dc25 pm25 an25 cd25 ct25), sl25⟩)
    (c25 : PySem.W.codeIn K cd25 "_law_shorts" = true)
    (k25 : PySem.W.keepIn K (.ref f25) = true)
    (d26 : PySem.W.nsIn K mainGlobals "_law_open" = some (some (.ref f26)))
    (l26 : K.lookup f26 = some ⟨oc26, od26, .func (PySem.W.fnOf "_law_open" "_law_open" (defArgs s__law_open) (defBody s__law_open) (defScope s__law_open) .none kV26 dc26 pm26 an26 cd26 ct26), sl26⟩)
    (c26 : PySem.W.codeIn K cd26 "_law_open" = true)
    (k26 : PySem.W.keepIn K (.ref f26) = true)
    (d27 : PySem.W.nsIn K mainGlobals "_law_need" = some (some (.ref f27)))
    (l27 : K.lookup f27 = some ⟨oc27, od27, .func (PySem.W.fnOf "_law_need" "_law_need" (defArgs s__law_need) (defBody s__law_need) (defScope s__law_need) .none kV27 dc27 pm27 an27 cd27 ct27), sl27⟩)
    (c27 : PySem.W.codeIn K cd27 "_law_need" = true)
    (k27 : PySem.W.keepIn K (.ref f27) = true)
    (d28 : PySem.W.nsIn K mainGlobals "_law_row" = some (some (.ref f28)))
    (l28 : K.lookup f28 = some ⟨oc28, od28, .func (PySem.W.fnOf "_law_row" "_law_row" (defArgs s__law_row) (defBody s__law_row) (defScope s__law_row) .none kV28 dc28 pm28 an28 cd28 ct28), sl28⟩)
    (c28 : PySem.W.codeIn K cd28 "_law_row" = true)
    (k28 : PySem.W.keepIn K (.ref f28) = true)
    (d29 : PySem.W.nsIn K mainGlobals "_law_read" = some (some (.ref f29)))
    (l29 : K.lookup f29 = some ⟨oc29, od29, .func (PySem.W.fnOf "_law_read" "_law_read" (defArgs s__law_read) (defBody s__law_read) (defScope s__law_read) .none kV29 dc29 pm29 an29 cd29 ct29), sl29⟩)
    (c29 : PySem.W.codeIn K cd29 "_law_read" = true)
    (k29 : PySem.W.keepIn K (.ref f29) = true)
    (d30 : PySem.W.nsIn K mainGlobals "_law_whole" = some (some (.ref f30)))
    (l30 : K.lookup f30 = some ⟨oc30, od30, .func (PySem.W.fnOf "_law_whole" "_law_whole" (defArgs s__law_whole) (defBody s__law_whole) (defScope s__law_whole) .none kV30 dc30 pm30 an30 cd30 ct30), sl30⟩)
    (c30 : PySem.W.codeIn K cd30 "_law_whole" = true)
    (k30 : PySem.W.keepIn K (.ref f30) = true)
    (d31 : PySem.W.nsIn K mainGlobals "_law_changed" = some (some (.ref f31)))
    (l31 : K.lookup f31 = some ⟨oc31, od31, .func (PySem.W.fnOf "_law_changed" "_law_changed" (defArgs s__law_changed) (defBody s__law_changed) (defScope s__law_changed) .none kV31 dc31 pm31 an31 cd31 ct31), sl31⟩)
    (c31 : PySem.W.codeIn K cd31 "_law_changed" = true)
    (k31 : PySem.W.keepIn K (.ref f31) = true)
    (d32 : PySem.W.nsIn K mainGlobals "_law_asked" = some (some (.ref f32)))
    (l32 : K.lookup f32 = some ⟨oc32, od32, .func (PySem.W.fnOf "_law_asked" "_law_asked" (defArgs s__law_asked) (defBody s__law_asked) (defScope s__law_asked) .none kV32 dc32 pm32 an32 cd32 ct32), sl32⟩)
    (c32 : PySem.W.codeIn K cd32 "_law_asked" = true)
    (k32 : PySem.W.keepIn K (.ref f32) = true)
    (d33 : PySem.W.nsIn K mainGlobals "_law_no_grammar" = some (some (.ref f33)))
    (l33 : K.lookup f33 = some ⟨oc33, od33, .func (PySem.W.fnOf "_law_no_grammar" "_law_no_grammar" (defArgs s__law_no_grammar) (defBody s__law_no_grammar) (defScope s__law_no_grammar) .none kV33 dc33 pm33 an33 cd33 ct33), sl33⟩)
    (c33 : PySem.W.codeIn K cd33 "_law_no_grammar" = true)
    (k33 : PySem.W.keepIn K (.ref f33) = true)
    (d34 : PySem.W.nsIn K mainGlobals "_law_right" = some (some (.ref f34)))
    (l34 : K.lookup f34 = some ⟨oc34, od34, .func (PySem.W.fnOf "_law_right" "_law_right" (defArgs s__law_right) (defBody s__law_right) (defScope s__law_right) .none kV34 dc34 pm34 an34 cd34 ct34), sl34⟩)
    (c34 : PySem.W.codeIn K cd34 "_law_right" = true)
    (k34 : PySem.W.keepIn K (.ref f34) = true)
    (d35 : PySem.W.nsIn K mainGlobals "law" = some (some (.ref f35)))
    (l35 : K.lookup f35 = some ⟨oc35, od35, .func (PySem.W.fnOf "law" "law" (defArgs s_law) (defBody s_law) (defScope s_law) .none kV35 dc35 pm35 an35 cd35 ct35), sl35⟩)
    (c35 : PySem.W.codeIn K cd35 "law" = true)
    (k35 : PySem.W.keepIn K (.ref f35) = true)
    (iFIRST_CODE : PySem.W.nsIn K mainGlobals "FIRST_CODE" = some (some (.int 32 tFIRST_CODE)))
    (iLAST_CODE : PySem.W.nsIn K mainGlobals "LAST_CODE" = some (some (.int 126 tLAST_CODE)))
    (iPERCENT_CODE : PySem.W.nsIn K mainGlobals "PERCENT_CODE" = some (some (.int 37 tPERCENT_CODE)))
    (iMOST_LETTERS : PySem.W.nsIn K mainGlobals "MOST_LETTERS" = some (some (.int 8 tMOST_LETTERS)))
    (iMOST_PARTS : PySem.W.nsIn K mainGlobals "MOST_PARTS" = some (some (.int 6 tMOST_PARTS)))
    (iMOST_RULES : PySem.W.nsIn K mainGlobals "MOST_RULES" = some (some (.int 60 tMOST_RULES)))
    (zisinstance : PySem.W.nsIn K mainGlobals "isinstance" = some none)
    (zint : PySem.W.nsIn K mainGlobals "int" = some none)
    (zbool : PySem.W.nsIn K mainGlobals "bool" = some none)
    (zord : PySem.W.nsIn K mainGlobals "ord" = some none)
    (zstr : PySem.W.nsIn K mainGlobals "str" = some none)
    (zlen : PySem.W.nsIn K mainGlobals "len" = some none)
    (zall : PySem.W.nsIn K mainGlobals "all" = some none)
    (ztuple : PySem.W.nsIn K mainGlobals "tuple" = some none)
    (zlist : PySem.W.nsIn K mainGlobals "list" = some none)
    (zreversed : PySem.W.nsIn K mainGlobals "reversed" = some none)
    (zsum : PySem.W.nsIn K mainGlobals "sum" = some none)
    (zzip : PySem.W.nsIn K mainGlobals "zip" = some none)
    (zrange : PySem.W.nsIn K mainGlobals "range" = some none)
    (zValueError : PySem.W.nsIn K mainGlobals "ValueError" = some none)
    (xNoGrammar : PySem.W.excIn K c_NoGrammar [.type "ValueError", .type "Exception", .type "BaseException", .type "object"] "ValueError.__new__" = true)
    (xNoRow : PySem.W.excIn K c_NoRow [.type "ValueError", .type "Exception", .type "BaseException", .type "object"] "ValueError.__new__" = true)
    (pgReading : PySem.W.plainGet K c_Reading Str.empty = true)
    (hdReading : PySem.W.hasDictIn K c_Reading = true)
    (poReading : PySem.W.plainOver K c_Reading = true)
    (saReading : PySem.W.findIn K (.ref c_Reading) "__setattr__" = some (some (.builtin "object.__setattr__")))
    (naReading_rules : PySem.W.findIn K (.ref c_Reading) "rules" = some none)
    (naReading_row : PySem.W.findIn K (.ref c_Reading) "row" = some none)
    (naReading_signs : PySem.W.findIn K (.ref c_Reading) "signs" = some none)
    (naReading_begins : PySem.W.findIn K (.ref c_Reading) "begins" = some none)
    (naReading_stops : PySem.W.findIn K (.ref c_Reading) "stops" = some none)
    (mkReading : PySem.W.makesIn K c_Reading = true)
    (kcReading : PySem.W.keepIn K (.ref c_Reading) = true)
    (ehit : PySem.W.exmOne K (.ref c_NoRow) (.ref c_ForestError) = some true)
    (ehitG : PySem.W.exmOne K (.ref c_NoGrammar) (.ref c_NoGrammar) = some true)
    (eval : PySem.W.kitOne K (.ref c_NoRow) (.type "ValueError") = some true)
    (eno1 : PySem.W.kitAny K (.ref c_NoRow) [.ref c_Barren, .ref c_Endless, .ref c_NoChange, .ref c_NoCosts, .ref c_NoNumber] = some false)
    (eno2 : PySem.W.kitAny K (.ref c_NoRow) [.ref c_NoGrammar, .ref c_NoRule, .ref c_NoText, .ref c_NoWords, .ref c_TooGreat] = some false)
    (exga_NoRow : PySem.W.findIn K (.ref c_NoRow) "__getattribute__" = some (some (.builtin "BaseException.__getattribute__")))
    (exgt_NoRow : PySem.W.findIn K (.ref c_NoRow) "__getattr__" = some none)
    (excl_NoRow : PySem.W.findIn K (.ref c_NoRow) "__class__" = some (some (.builtin "object.__class__")))
    (exmb_NoRow : PySem.W.mroIn K c_NoRow (.type "BaseException") = some true)
    (exmo_NoRow : PySem.W.mroIn K c_NoRow (.type "object") = some true)
    (exgs_ : PySem.W.specialIn K (.builtin "object.__class__") "__get__" = some (some (.builtin "getset_descriptor.__get__")))
    (extk_ : PySem.W.takesIn K (.builtin "object.__class__") = some true) :
    ∃ fd : FuncData, (∀ (s : Shared) (v : Value), BindsTo s fd ⟨[v], []⟩ [("_law_script", v)]) ∧ ∀ base : Heap, K.In base → base.Ns mainGlobals mg → FnOk l.prog w K mg base CX0 11 fa fd ["_law_script"] (spLaw K) := by
  have e := hfa.symm.trans (PySem.W.mg_of X G d35)
  cases e
  have m := fun {x : Str} {v : Value} (h : PySem.W.nsIn K mainGlobals x = some (some v)) => PySem.W.mg_of X G h
  have z := fun {x : Str} (h : PySem.W.nsIn K mainGlobals x = some none) => PySem.W.mg_none_of X G h
  have T : Txt K mg ⟨c_NoGrammar, c_NoRow, c_Reading, c_ForestError, c_Barren, c_Endless, c_NoChange, c_NoCosts, c_NoNumber, c_NoRule, c_NoText, c_NoWords, c_TooGreat, 0⟩ := ⟨z zisinstance, z zint, z zbool, z zord, z zstr, z zlen, z zall, z ztuple, z zlist, z zreversed, z zsum, z zzip, z zrange, z zValueError, ⟨_, m iFIRST_CODE⟩, ⟨_, m iLAST_CODE⟩, ⟨_, m iPERCENT_CODE⟩, ⟨_, m iMOST_LETTERS⟩, ⟨_, m iMOST_PARTS⟩, ⟨_, m iMOST_RULES⟩, m nNoGrammar, m nNoRow, m nReading, m nForestError, m nBarren, m nEndless, m nNoChange, m nNoCosts, m nNoNumber, m nNoRule, m nNoText, m nNoWords, m nTooGreat, xNoGrammar, xNoRow, ⟨pgReading, hdReading, poReading, saReading⟩, naReading_rules, naReading_row, naReading_signs, naReading_begins, naReading_stops, ehit, ehitG, eval, eno1, eno2, exga_NoRow, exgt_NoRow, excl_NoRow, exmb_NoRow, exmo_NoRow, exgs_, extk_⟩
  have F0 := fun_mk (st := s_is_whole) l0 c0 k0
  have B0 := F0.binds (ps := ["thing"]) fun _ _ _ _ _ _ us hl => match us, hl with | [_], _ => rfl
  have F1 := fun_mk (st := s_stands_in_texts) l1 c1 k1
  have B1 := F1.binds (ps := ["sign"]) fun _ _ _ _ _ _ us hl => match us, hl with | [_], _ => rfl
  have F2 := fun_mk (st := s_is_sign) l2 c2 k2
  have B2 := F2.binds (ps := ["thing"]) fun _ _ _ _ _ _ us hl => match us, hl with | [_], _ => rfl
  have F3 := fun_mk (st := s_is_name) l3 c3 k3
  have B3 := F3.binds (ps := ["thing"]) fun _ _ _ _ _ _ us hl => match us, hl with | [_], _ => rfl
  have F4 := fun_mk (st := s_is_part) l4 c4 k4
  have B4 := F4.binds (ps := ["thing"]) fun _ _ _ _ _ _ us hl => match us, hl with | [_], _ => rfl
  have F5 := fun_mk (st := s_is_worth) l5 c5 k5
  have B5 := F5.binds (ps := ["thing"]) fun _ _ _ _ _ _ us hl => match us, hl with | [_], _ => rfl
  have F6 := fun_mk (st := s_are_parts) l6 c6 k6
  have B6 := F6.binds (ps := ["thing"]) fun _ _ _ _ _ _ us hl => match us, hl with | [_], _ => rfl
  have F7 := fun_mk (st := s_is_rule) l7 c7 k7
  have B7 := F7.binds (ps := ["thing"]) fun _ _ _ _ _ _ us hl => match us, hl with | [_], _ => rfl
  have F8 := fun_mk (st := s_is_grammar) l8 c8 k8
  have B8 := F8.binds (ps := ["thing"]) fun _ _ _ _ _ _ us hl => match us, hl with | [_], _ => rfl
  have F9 := fun_mk (st := s_checked) l9 c9 k9
  have B9 := F9.binds (ps := ["thing"]) fun _ _ _ _ _ _ us hl => match us, hl with | [_], _ => rfl
  have F10 := fun_mk (st := s_Reading___init__) l10 c10 k10
  have B10 := F10.binds (ps := ["self", "rules", "row"]) fun _ _ _ _ _ _ us hl => match us, hl with | [_, _, _], _ => rfl
  have F11 := fun_mk (st := s_Reading_next_number) l11 c11 k11
  have B11 := F11.binds (ps := ["self", "head"]) fun _ _ _ _ _ _ us hl => match us, hl with | [_, _], _ => rfl
  have F12 := fun_mk (st := s_Reading_take_rule) l12 c12 k12
  have B12 := F12.binds (ps := ["self", "head", "waiting"]) fun _ _ _ _ _ _ us hl => match us, hl with | [_, _, _], _ => rfl
  have F13 := fun_mk (st := s_Reading_take_all) l13 c13 k13
  have B13 := F13.binds (ps := ["self"]) fun _ _ _ _ _ _ us hl => match us, hl with | [_], _ => rfl
  have F14 := fun_mk (st := s_read_row) l14 c14 k14
  have B14 := F14.binds (ps := ["rules", "row"]) fun _ _ _ _ _ _ us hl => match us, hl with | [_, _], _ => rfl
  have F15 := fun_mk (st := s_text_of) l15 c15 k15
  have B15 := F15.binds (ps := ["grammar", "row"]) fun _ _ _ _ _ _ us hl => match us, hl with | [_, _], _ => rfl
  have F16 := fun_mk (st := s_worth_of) l16 c16 k16
  have B16 := F16.binds (ps := ["grammar", "row"]) fun _ _ _ _ _ _ us hl => match us, hl with | [_, _], _ => rfl
  have F17 := fun_mk (st := s_spans_of) l17 c17 k17
  have B17 := F17.binds (ps := ["grammar", "row"]) fun _ _ _ _ _ _ us hl => match us, hl with | [_, _], _ => rfl
  have F18 := fun_mk (st := s__law_cell_at) l18 c18 k18
  have B18 := F18.binds (ps := ["_law_script", "_law_k"]) fun _ _ _ _ _ _ us hl => match us, hl with | [_, _], _ => rfl
  have F19 := fun_mk (st := s__law_mixed) l19 c19 k19
  have B19 := F19.binds (ps := ["_law_script", "_law_k"]) fun _ _ _ _ _ _ us hl => match us, hl with | [_, _], _ => rfl
  have F20 := fun_mk (st := s__law_signs) l20 c20 k20
  have B20 := F20.binds (ps := ["_law_cell"]) fun _ _ _ _ _ _ us hl => match us, hl with | [_], _ => rfl
  have F21 := fun_mk (st := s__law_names) l21 c21 k21
  have B21 := F21.binds (ps := ["_law_cell"]) fun _ _ _ _ _ _ us hl => match us, hl with | [_], _ => rfl
  have F22 := fun_mk (st := s__law_worth) l22 c22 k22
  have B22 := F22.binds (ps := ["_law_cell"]) fun _ _ _ _ _ _ us hl => match us, hl with | [_], _ => rfl
  have F23 := fun_mk (st := s__law_parts) l23 c23 k23
  have B23 := F23.binds (ps := ["_law_cell", "_law_menu", "_law_most"]) fun _ _ _ _ _ _ us hl => match us, hl with | [_, _, _], _ => rfl
  have F24 := fun_mk (st := s__law_grammar) l24 c24 k24
  have B24 := F24.binds (ps := ["_law_script"]) fun _ _ _ _ _ _ us hl => match us, hl with | [_], _ => rfl
  have F25 := fun_mk (st := s__law_shorts) l25 c25 k25
  have B25 := F25.binds (ps := ["_law_grammar_here"]) fun _ _ _ _ _ _ us hl => match us, hl with | [_], _ => rfl
  have F26 := fun_mk (st := s__law_open) l26 c26 k26
  have B26 := F26.binds (ps := ["_law_grammar_here", "_law_shorts_here", "_law_name"]) fun _ _ _ _ _ _ us hl => match us, hl with | [_, _, _], _ => rfl
  have F27 := fun_mk (st := s__law_need) l27 c27 k27
  have B27 := F27.binds (ps := ["_law_parts_here"]) fun _ _ _ _ _ _ us hl => match us, hl with | [_], _ => rfl
  have F28 := fun_mk (st := s__law_row) l28 c28 k28
  have B28 := F28.binds (ps := ["_law_grammar_here", "_law_cells", "_law_room"]) fun _ _ _ _ _ _ us hl => match us, hl with | [_, _, _], _ => rfl
  have F29 := fun_mk (st := s__law_read) l29 c29 k29
  have B29 := F29.binds (ps := ["_law_grammar_here", "_law_row_here"]) fun _ _ _ _ _ _ us hl => match us, hl with | [_, _], _ => rfl
  have F30 := fun_mk (st := s__law_whole) l30 c30 k30
  have B30 := F30.binds (ps := ["_law_found"]) fun _ _ _ _ _ _ us hl => match us, hl with | [_], _ => rfl
  have F31 := fun_mk (st := s__law_changed) l31 c31 k31
  have B31 := F31.binds (ps := ["_law_row_here", "_law_way", "_law_at", "_law_number"]) fun _ _ _ _ _ _ us hl => match us, hl with | [_, _, _, _], _ => rfl
  have F32 := fun_mk (st := s__law_asked) l32 c32 k32
  have B32 := F32.binds (ps := ["_law_grammar_here", "_law_row_here", "_law_way"]) fun _ _ _ _ _ _ us hl => match us, hl with | [_, _, _], _ => rfl
  have F33 := fun_mk (st := s__law_no_grammar) l33 c33 k33
  have B33 := F33.binds (ps := ["_law_row_here", "_law_cell", "_law_way"]) fun _ _ _ _ _ _ us hl => match us, hl with | [_, _, _], _ => rfl
  have F34 := fun_mk (st := s__law_right) l34 c34 k34
  have B34 := F34.binds (ps := ["_law_grammar_here", "_law_row_here", "_law_odd"]) fun _ _ _ _ _ _ us hl => match us, hl with | [_, _, _], _ => rfl
  have F35 := fun_mk (st := s_law) l35 c35 k35
  have U_is_whole : Used l.prog w K mg CX0 1 "is_whole" ["thing"] (spIs isWholeD) := ⟨⟨f0, _, fun base => ok_is_whole F0 T, m d0, k0, B0⟩⟩
  have U_stands_in_texts : Used l.prog w K mg CX0 1 "stands_in_texts" ["sign"] (spStands) := ⟨⟨f1, _, fun base => ok_stands_in_texts F1 T, m d1, k1, B1⟩⟩
  have U_is_sign : Used l.prog w K mg CX0 2 "is_sign" ["thing"] (spIs isSignD) := ⟨⟨f2, _, fun base => ok_is_sign F2 T U_stands_in_texts, m d2, k2, B2⟩⟩
  have U_is_name : Used l.prog w K mg CX0 1 "is_name" ["thing"] (spIs isNameD) := ⟨⟨f3, _, fun base => ok_is_name F3 T, m d3, k3, B3⟩⟩
  have U_is_part : Used l.prog w K mg CX0 3 "is_part" ["thing"] (spIs isPartD) := ⟨⟨f4, _, fun base => ok_is_part F4 T U_is_sign U_is_name, m d4, k4, B4⟩⟩
  have U_is_worth : Used l.prog w K mg CX0 2 "is_worth" ["thing"] (spIs isWorthD) := ⟨⟨f5, _, fun base => ok_is_worth F5 T U_is_whole, m d5, k5, B5⟩⟩
  have U_are_parts : Used l.prog w K mg CX0 4 "are_parts" ["thing"] (spIs arePartsD) := ⟨⟨f6, _, fun base => ok_are_parts F6 T U_is_part, m d6, k6, B6⟩⟩
  have U_is_rule : Used l.prog w K mg CX0 5 "is_rule" ["thing"] (spIs isRuleD) := ⟨⟨f7, _, fun base => ok_is_rule F7 T U_is_name U_are_parts U_is_worth, m d7, k7, B7⟩⟩
  have U_is_grammar : Used l.prog w K mg CX0 6 "is_grammar" ["thing"] (spIs isGramD) := ⟨⟨f8, _, fun base => ok_is_grammar F8 T U_is_rule, m d8, k8, B8⟩⟩
  have U_checked : Used l.prog w K mg (CXo l.prog w) 7 "checked" ["thing"] (spChecked c_NoGrammar) := ⟨⟨f9, _, fun base => ok_checked F9 T U_is_grammar, m d9, k9, B9⟩⟩
  have U_Reading___init__ : UsedI l.prog w K mg CX0 1 c_Reading ["self", "rules", "row"] (spInit c_Reading) := ⟨⟨f10, _, fun base => ok_Reading___init__ F10 T, ⟨mkReading, a10, j10, kcReading⟩, B10⟩⟩
  have U_Reading_next_number : UsedM l.prog w K mg (CXo l.prog w) 2 c_Reading "next_number" ["self", "head"] (spNext c_Reading c_NoRow) := ⟨⟨f11, _, fun base => ok_Reading_next_number F11 T U_is_whole, ⟨a11, j11, k11⟩, B11⟩⟩
  have U_Reading_take_rule : UsedM l.prog w K mg (CXo l.prog w) 3 c_Reading "take_rule" ["self", "head", "waiting"] (spTake c_Reading c_NoRow) := ⟨⟨f12, _, fun base => ok_Reading_take_rule F12 T U_Reading_next_number, ⟨a12, j12, k12⟩, B12⟩⟩
  have U_Reading_take_all : UsedM l.prog w K mg (CXo l.prog w) 4 c_Reading "take_all" ["self"] (spAll c_Reading c_NoRow) := ⟨⟨f13, _, fun base => ok_Reading_take_all F13 T U_is_whole U_Reading_take_rule, ⟨a13, j13, k13⟩, B13⟩⟩
  have U_read_row : Used l.prog w K mg (CXo l.prog w) 5 "read_row" ["rules", "row"] (spReadRow c_Reading c_NoRow) := ⟨⟨f14, _, fun base => ok_read_row F14 T U_Reading___init__ U_Reading_take_all, m d14, k14, B14⟩⟩
  have U_text_of : Used l.prog w K mg (CXo l.prog w) 8 "text_of" ["grammar", "row"] (spTextOf c_NoGrammar c_NoRow) := ⟨⟨f15, _, fun base => ok_text_of F15 T U_read_row U_checked, m d15, k15, B15⟩⟩
  have U_worth_of : Used l.prog w K mg (CXo l.prog w) 8 "worth_of" ["grammar", "row"] (spWorthOf c_NoGrammar c_NoRow) := ⟨⟨f16, _, fun base => ok_worth_of F16 T U_checked U_read_row, m d16, k16, B16⟩⟩
  have U_spans_of : Used l.prog w K mg (CXo l.prog w) 8 "spans_of" ["grammar", "row"] (spSpansOf c_NoGrammar c_NoRow) := ⟨⟨f17, _, fun base => ok_spans_of F17 T U_read_row U_checked, m d17, k17, B17⟩⟩
  have U__law_cell_at : Used l.prog w K mg CX0 1 "_law_cell_at" ["_law_script", "_law_k"] (spCell K) := ⟨⟨f18, _, fun base => ok__law_cell_at F18 T, m d18, k18, B18⟩⟩
  have U__law_mixed : Used l.prog w K mg CX0 2 "_law_mixed" ["_law_script", "_law_k"] (spMixed K) := ⟨⟨f19, _, fun base => ok__law_mixed F19 T U__law_cell_at, m d19, k19, B19⟩⟩
  have U__law_signs : Used l.prog w K mg CX0 1 "_law_signs" ["_law_cell"] (spSigns) := ⟨⟨f20, _, fun base => ok__law_signs F20 T, m d20, k20, B20⟩⟩
  have U__law_names : Used l.prog w K mg CX0 1 "_law_names" ["_law_cell"] (spNames) := ⟨⟨f21, _, fun base => ok__law_names F21 T, m d21, k21, B21⟩⟩
  have U__law_worth : Used l.prog w K mg CX0 1 "_law_worth" ["_law_cell"] (spWorthL) := ⟨⟨f22, _, fun base => ok__law_worth F22 T, m d22, k22, B22⟩⟩
  have U__law_parts : Used l.prog w K mg CX0 1 "_law_parts" ["_law_cell", "_law_menu", "_law_most"] (spParts) := ⟨⟨f23, _, fun base => ok__law_parts F23 T, m d23, k23, B23⟩⟩
  have U__law_grammar : Used l.prog w K mg CX0 3 "_law_grammar" ["_law_script"] (spGram K) := ⟨⟨f24, _, fun base => ok__law_grammar F24 T U__law_names U__law_mixed U__law_parts U__law_signs U__law_worth U__law_cell_at, m d24, k24, B24⟩⟩
  have U__law_shorts : Used l.prog w K mg CX0 1 "_law_shorts" ["_law_grammar_here"] (spShorts) := ⟨⟨f25, _, fun base => ok__law_shorts F25 T, m d25, k25, B25⟩⟩
  have U__law_open : Used l.prog w K mg CX0 1 "_law_open" ["_law_grammar_here", "_law_shorts_here", "_law_name"] (spOpen) := ⟨⟨f26, _, fun base => ok__law_open F26 T, m d26, k26, B26⟩⟩
  have U__law_need : Used l.prog w K mg CX0 1 "_law_need" ["_law_parts_here"] (spNeed) := ⟨⟨f27, _, fun base => ok__law_need F27 T, m d27, k27, B27⟩⟩
  have U__law_row : Used l.prog w K mg CX0 2 "_law_row" ["_law_grammar_here", "_law_cells", "_law_room"] (spRowL K) := ⟨⟨f28, _, fun base => ok__law_row F28 T U__law_shorts U__law_need U__law_open, m d28, k28, B28⟩⟩
  have U__law_read : Used l.prog w K mg CX0 1 "_law_read" ["_law_grammar_here", "_law_row_here"] (spRead) := ⟨⟨f29, _, fun base => ok__law_read F29 T, m d29, k29, B29⟩⟩
  have U__law_whole : Used l.prog w K mg CX0 1 "_law_whole" ["_law_found"] (spWhole) := ⟨⟨f30, _, fun base => ok__law_whole F30 T, m d30, k30, B30⟩⟩
  have U__law_changed : Used l.prog w K mg CX0 1 "_law_changed" ["_law_row_here", "_law_way", "_law_at", "_law_number"] (spChanged) := ⟨⟨f31, _, fun base => ok__law_changed F31 T, m d31, k31, B31⟩⟩
  have U__law_asked : Used l.prog w K mg CX0 9 "_law_asked" ["_law_grammar_here", "_law_row_here", "_law_way"] (spAsked) := ⟨⟨f32, _, fun base => ok__law_asked F32 T U_text_of U_worth_of U_spans_of, m d32, k32, B32⟩⟩
  have U__law_no_grammar : Used l.prog w K mg CX0 9 "_law_no_grammar" ["_law_row_here", "_law_cell", "_law_way"] (spNoGram) := ⟨⟨f33, _, fun base => ok__law_no_grammar F33 T U_text_of U_worth_of U_spans_of, m d33, k33, B33⟩⟩
  have U__law_right : Used l.prog w K mg CX0 10 "_law_right" ["_law_grammar_here", "_law_row_here", "_law_odd"] (spRight) := ⟨⟨f34, _, fun base => ok__law_right F34 T U__law_read U__law_asked U__law_whole, m d34, k34, B34⟩⟩
  exact ⟨PySem.W.fnOf "law" "law" (defArgs s_law) (defBody s_law) (defScope s_law) .none kV35 dc35 pm35 an35 cd35 ct35, fun s v => .of_eq rfl, fun base _ _ => ok_law F35 T U__law_grammar U__law_row U__law_mixed U__law_changed U__law_right U__law_no_grammar⟩
theorem walk {l : PySem.W.OpenLaw} {q : Program} {loose : List Str} {XP : (Str → Option Value) → Heap → Prop} {YP : World → Heap → Prop} {d : DefRec} {K : Params → PySem.W.Frag} (hn : l.most = some 63) (hdf : d.params.defaults = [])
    (hY : ∀ (w : World) (h : Heap), YP w h → (K w.params).In h)
    (F : ∀ (w : World) (mg : Str → Option Value) (fa : Addr) (h : Heap), (K w.params).In h → h.Ns mainGlobals mg → mg d.name = some (.ref fa) →
      ∃ fd : FuncData, (∀ (s : Shared) (u : Value), BindsTo s fd ⟨[u], []⟩ [("_law_script", u)]) ∧ ∀ base : Heap, (K w.params).In base → base.Ns mainGlobals mg → FnOk l.prog w (K w.params) mg base CX0 11 fa fd ["_law_script"] (spLaw (K w.params))) :
    PySem.W.WalkO q loose XP YP l.row.toRowW d [] (fun f vs => PySem.call f vs) :=
  L2.walk_of (n := 63) (k := 11) (x := "_law_script") (CX := fun _ => CX0) (sp := fun w => spLaw (K w.params)) hn (by decide) hdf ⟨rfl, by decide, by decide⟩ hY F (fun _ _ a ns hl hO hS => law_start hl hO hS) fun _ _ _ _ _ z => z
end FR
open PySem PySem.W PyProof.Rows
def PySem.W.Fast.tw3904259260684618981 : Nat := 0
def PySem.W.Fast.tw2381117704799429489 : Nat := 0
def PySem.W.Fast.tw5280894310275577842 : Nat := 0
def PySem.W.Fast.tw17947026908459715943 : Nat := 0
def PySem.W.Fast.tw13177346880067900812 : Nat := 0
def PySem.W.Fast.tw5305728328851074435 : Nat := 0
def PySem.W.Fast.tw7089305372201908224 : Nat := 0
def PySem.W.Fast.tw8988648693722398774 : Nat := 0
def PySem.W.Fast.tw8930795720604028067 : Nat := 0
def PySem.W.Fast.tw16537196926183210602 : Nat := 0
def PySem.W.Fast.tw2836510874177550828 : Nat := 0
def PySem.W.Fast.tw7605475777308381953 : Nat := 0
def PySem.W.Fast.tw6414503291282667 : Nat := 0
def PySem.W.Fast.tw17951242176528362730 : Nat := 0
def PySem.W.Fast.tw3421187673703029275 : Nat := 0
def PySem.W.Fast.tw16536637049091897235 : Nat := 0
def PySem.W.Fast.tw6323273013863017063 : Nat := 0
def PySem.W.Fast.tw10144907021574532868 : Nat := 0
def PySem.W.Fast.tw15051535551710201398 : Nat := 0
def PySem.W.Fast.tw2942244183975061175 : Nat := 0
def PySem.W.Fast.tw3552409851286198949 : Nat := 0
def PySem.W.Fast.tw12332529673641490119 : Nat := 0
def PySem.W.Fast.tw2016709109174808986 : Nat := 0
def PySem.W.Fast.tw10946864827058502278 : Nat := 0
def PySem.W.Fast.tw12313573416914857500 : Nat := 0
def PySem.W.Fast.tw15956685984164928213 : Nat := 0
def PySem.W.Fast.tw17289027276585625945 : Nat := 0
def PySem.W.Fast.tw2535778881048885534 : Nat := 0
set_option maxRecDepth 100000 in
set_option maxHeartbeats 0 in
theorem PySem.Challenge.cw_forestread_k05_rows_refused_holds : PySem.Challenge.rw_forestread_k05_rows_refused.Holds := by
  w_on; o_law; k_head; (case hw => w_witness2)
  k_fill
  refine FR.walk (l := PySem.Challenge.rw_forestread_k05_rows_refused) rfl rfl (fun w h Y => PySem.W.kIn_of Y) ?F
  case F =>
    intro w mg fa h KX G hmg
    refine' FR.all_mk KX G hmg ?nNoGrammar ?nNoRow ?nReading ?nForestError ?nBarren ?nEndless ?nNoChange ?nNoCosts ?nNoNumber ?nNoRule ?nNoText ?nNoWords ?nTooGreat ?d0 ?l0 ?c0 ?k0 ?d1 ?l1 ?c1 ?k1 ?d2 ?l2 ?c2 ?k2 ?d3 ?l3 ?c3 ?k3 ?d4 ?l4 ?c4 ?k4 ?d5 ?l5 ?c5 ?k5 ?d6 ?l6 ?c6 ?k6 ?d7 ?l7 ?c7 ?k7 ?d8 ?l8 ?c8 ?k8 ?d9 ?l9 ?c9 ?k9 ?a10 ?j10 ?l10 ?c10 ?k10 ?a11 ?j11 ?l11 ?c11 ?k11 ?a12 ?j12 ?l12 ?c12 ?k12 ?a13 ?j13 ?l13 ?c13 ?k13 ?d14 ?l14 ?c14 ?k14 ?d15 ?l15 ?c15 ?k15 ?d16 ?l16 ?c16 ?k16 ?d17 ?l17 ?c17 ?k17 ?d18 ?l18 ?c18 ?k18 ?d19 ?l19 ?c19 ?k19 ?d20 ?l20 ?c20 ?k20 ?d21 ?l21 ?c21 ?k21 ?d22 ?l22 ?c22 ?k22 ?d23 ?l23 ?c23 ?k23 ?d24 ?l24 ?c24 ?k24 ?d25 ?l25 ?c25 ?k25 ?d26 ?l26 ?c26 ?k26 ?d27 ?l27 ?c27 ?k27 ?d28 ?l28 ?c28 ?k28 ?d29 ?l29 ?c29 ?k29 ?d30 ?l30 ?c30 ?k30 ?d31 ?l31 ?c31 ?k31 ?d32 ?l32 ?c32 ?k32 ?d33 ?l33 ?c33 ?k33 ?d34 ?l34 ?c34 ?k34 ?d35 ?l35 ?c35 ?k35 ?iFIRST_CODE ?iLAST_CODE ?iPERCENT_CODE ?iMOST_LETTERS ?iMOST_PARTS ?iMOST_RULES ?zisinstance ?zint ?zbool ?zord ?zstr ?zlen ?zall ?ztuple ?zlist ?zreversed ?zsum ?zzip ?zrange ?zValueError ?xNoGrammar ?xNoRow ?pgReading ?hdReading ?poReading ?saReading ?naReading_rules ?naReading_row ?naReading_signs ?naReading_begins ?naReading_stops ?mkReading ?kcReading ?ehit ?ehitG ?eval ?eno1 ?eno2 ?exga_NoRow ?exgt_NoRow ?excl_NoRow ?exmb_NoRow ?exmo_NoRow ?exgs_ ?extk_
    (case nNoGrammar => k_is)
    (case nNoRow => k_is)
    (case nReading => k_is)
    (case nForestError => k_is)
    (case nBarren => k_is)
    (case nEndless => k_is)
    (case nNoChange => k_is)
    (case nNoCosts => k_is)
    (case nNoNumber => k_is)
    (case nNoRule => k_is)
    (case nNoText => k_is)
    (case nNoWords => k_is)
    (case nTooGreat => k_is)
    (case d0 => k_is)
    (case l0 => k_is)
    (case c0 => k_is)
    (case k0 => k_is)
    (case d1 => k_is)
    (case l1 => k_is)
    (case c1 => k_is)
    (case k1 => k_is)
    (case d2 => k_is)
    (case l2 => k_is)
    (case c2 => k_is)
    (case k2 => k_is)
    (case d3 => k_is)
    (case l3 => k_is)
    (case c3 => k_is)
    (case k3 => k_is)
    (case d4 => k_is)
    (case l4 => k_is)
    (case c4 => k_is)
    (case k4 => k_is)
    (case d5 => k_is)
    (case l5 => k_is)
    (case c5 => k_is)
    (case k5 => k_is)
    (case d6 => k_is)
    (case l6 => k_is)
    (case c6 => k_is)
    (case k6 => k_is)
    (case d7 => k_is)
    (case l7 => k_is)
    (case c7 => k_is)
    (case k7 => k_is)
    (case d8 => k_is)
    (case l8 => k_is)
    (case c8 => k_is)
    (case k8 => k_is)
    (case d9 => k_is)
    (case l9 => k_is)
    (case c9 => k_is)
    (case k9 => k_is)
    (case a10 => k_is)
    (case j10 => k_is)
    (case l10 => k_is)
    (case c10 => k_is)
    (case k10 => k_is)
    (case a11 => k_is)
    (case j11 => k_is)
    (case l11 => k_is)
    (case c11 => k_is)
    (case k11 => k_is)
    (case a12 => k_is)
    (case j12 => k_is)
    (case l12 => k_is)
    (case c12 => k_is)
    (case k12 => k_is)
    (case a13 => k_is)
    (case j13 => k_is)
    (case l13 => k_is)
    (case c13 => k_is)
    (case k13 => k_is)
    (case d14 => k_is)
    (case l14 => k_is)
    (case c14 => k_is)
    (case k14 => k_is)
    (case d15 => k_is)
    (case l15 => k_is)
    (case c15 => k_is)
    (case k15 => k_is)
    (case d16 => k_is)
    (case l16 => k_is)
    (case c16 => k_is)
    (case k16 => k_is)
    (case d17 => k_is)
    (case l17 => k_is)
    (case c17 => k_is)
    (case k17 => k_is)
    (case d18 => k_is)
    (case l18 => k_is)
    (case c18 => k_is)
    (case k18 => k_is)
    (case d19 => k_is)
    (case l19 => k_is)
    (case c19 => k_is)
    (case k19 => k_is)
    (case d20 => k_is)
    (case l20 => k_is)
    (case c20 => k_is)
    (case k20 => k_is)
    (case d21 => k_is)
    (case l21 => k_is)
    (case c21 => k_is)
    (case k21 => k_is)
    (case d22 => k_is)
    (case l22 => k_is)
    (case c22 => k_is)
    (case k22 => k_is)
    (case d23 => k_is)
    (case l23 => k_is)
    (case c23 => k_is)
    (case k23 => k_is)
    (case d24 => k_is)
    (case l24 => k_is)
    (case c24 => k_is)
    (case k24 => k_is)
    (case d25 => k_is)
    (case l25 => k_is)
    (case c25 => k_is)
    (case k25 => k_is)
    (case d26 => k_is)
    (case l26 => k_is)
    (case c26 => k_is)
    (case k26 => k_is)
    (case d27 => k_is)
    (case l27 => k_is)
    (case c27 => k_is)
    (case k27 => k_is)
    (case d28 => k_is)
    (case l28 => k_is)
    (case c28 => k_is)
    (case k28 => k_is)
    (case d29 => k_is)
    (case l29 => k_is)
    (case c29 => k_is)
    (case k29 => k_is)
    (case d30 => k_is)
    (case l30 => k_is)
    (case c30 => k_is)
    (case k30 => k_is)
    (case d31 => k_is)
    (case l31 => k_is)
    (case c31 => k_is)
    (case k31 => k_is)
    (case d32 => k_is)
    (case l32 => k_is)
    (case c32 => k_is)
    (case k32 => k_is)
    (case d33 => k_is)
    (case l33 => k_is)
    (case c33 => k_is)
    (case k33 => k_is)
    (case d34 => k_is)
    (case l34 => k_is)
    (case c34 => k_is)
    (case k34 => k_is)
    (case d35 => k_is)
    (case l35 => k_is)
    (case c35 => k_is)
    (case k35 => k_is)
    (case iFIRST_CODE => k_is)
    (case iLAST_CODE => k_is)
    (case iPERCENT_CODE => k_is)
    (case iMOST_LETTERS => k_is)
    (case iMOST_PARTS => k_is)
    (case iMOST_RULES => k_is)
    (case zisinstance => k_is)
    (case zint => k_is)
    (case zbool => k_is)
    (case zord => k_is)
    (case zstr => k_is)
    (case zlen => k_is)
    (case zall => k_is)
    (case ztuple => k_is)
    (case zlist => k_is)
    (case zreversed => k_is)
    (case zsum => k_is)
    (case zzip => k_is)
    (case zrange => k_is)
    (case zValueError => k_is)
    (case xNoGrammar => k_exc)
    (case xNoRow => k_exc)
    (case pgReading => k_is)
    (case hdReading => k_is)
    (case poReading => k_is)
    (case saReading => k_is)
    (case naReading_rules => k_is)
    (case naReading_row => k_is)
    (case naReading_signs => k_is)
    (case naReading_begins => k_is)
    (case naReading_stops => k_is)
    (case mkReading => k_is)
    (case kcReading => k_is)
    (case ehit => kts_exm)
    (case ehitG => kts_exm)
    (case eval => kit_is)
    (case eno1 => kit_is)
    (case eno2 => kit_is)
    (case exga_NoRow => k_is)
    (case exgt_NoRow => k_is)
    (case excl_NoRow => k_is)
    (case exmb_NoRow => k_is)
    (case exmo_NoRow => k_is)
    (case exgs_ => k_is)
    (case extk_ => k_is)
