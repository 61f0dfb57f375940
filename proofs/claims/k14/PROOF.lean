import PyProof.Rows.All
import Wide.All
import OpenK.AllK
import Wide.FinOn
import Lean
import PyProof.EqAt
import PyProof.EqKinds
import PyProof.TupleCall
import PySem.Challenge.RW_forestread_k14_whole_least_rows
set_option Elab.async false
set_option linter.all false
set_option maxRecDepth 100000

namespace L2
open PySem PySem.Spec PyProof.Rows


abbrev Key := Sum Int Str
def keyIs : Key → Value → Bool
  | .inl k, v => Value.isInt k v
  | .inr x, v => Value.isStrOf x v
def keyH (w : World) : Key → Int
  | .inl k => hashInt k
  | .inr x => hashStr w x
theorem keyIs_shape : ∀ {k : Key} {v : Value}, keyIs k v = true → (∃ i t, k = Sum.inl i ∧ v = Value.int i t) ∨ (∃ x t, k = Sum.inr x ∧ v = Value.str x t)
  | .inl i, v, h => by
    obtain ⟨t, e⟩ := Value.isInt_shape (k := i) (v := v) h
    exact .inl ⟨i, t, rfl, e⟩
  | .inr x, v, h => by
    obtain ⟨t, e⟩ := Value.isStrOf_shape (x := x) (v := v) h
    exact .inr ⟨x, t, rfl, e⟩
theorem keyIs_int (i : Int) (t : Tok) : keyIs (.inl i) (.int i t) = true := by simp [keyIs, Value.isInt]
theorem keyIs_str (x : Str) (t : Tok) : keyIs (.inr x) (.str x t) = true := by simp [keyIs, Value.isStrOf]
theorem key_ll (a b : Int) : decide ((Sum.inl a : Key) = Sum.inl b) = (a == b) := by
  by_cases e : a = b
  · subst e; simp
  · have h : ¬ (Sum.inl a : Key) = Sum.inl b := fun q => e (Sum.inl.inj q)
    rw [decide_eq_false h]
    exact (beq_eq_false_iff_ne.mpr e).symm
theorem key_rr (a b : Str) : decide ((Sum.inr a : Key) = Sum.inr b) = decide (a = b) := by
  by_cases e : a = b
  · subst e; simp
  · have h : ¬ (Sum.inr a : Key) = Sum.inr b := fun q => e (Sum.inr.inj q)
    rw [decide_eq_false h, decide_eq_false e]
theorem key_lr (a : Int) (b : Str) : decide ((Sum.inl a : Key) = Sum.inr b) = false := decide_eq_false (fun q => nomatch q)
theorem key_rl (a : Str) (b : Int) : decide ((Sum.inr a : Key) = Sum.inl b) = false := decide_eq_false (fun q => nomatch q)

def mixKind (prog : Program) (w : World) : PySem.KeyKind prog w Key where
  is := keyIs
  hash := keyH w
  inj := fun v a b ha hb => by
    rcases keyIs_shape ha with ⟨i, t, rfl, rfl⟩ | ⟨x, t, rfl, rfl⟩
    · rcases keyIs_shape hb with ⟨j, u, rfl, e⟩ | ⟨y, u, rfl, e⟩
      · injection e with e1 _; rw [e1]
      · exact nomatch e
    · rcases keyIs_shape hb with ⟨j, u, rfl, e⟩ | ⟨y, u, rfl, e⟩
      · exact nomatch e
      · injection e with e1 _; rw [e1]
  byValue := fun k v h => by
    rcases keyIs_shape h with ⟨i, t, rfl, rfl⟩ | ⟨x, t, rfl, rfl⟩ <;> rfl
  pyHash := fun hv h => by
    rcases keyIs_shape hv with ⟨i, t, rfl, rfl⟩ | ⟨x, t, rfl, rfl⟩
    · exact wpAny_pyHash_int h
    · exact wpAny_pyHash_str h
  eqBool := fun hu hv h => by
    rcases keyIs_shape hu with ⟨i, t, rfl, rfl⟩ | ⟨x, t, rfl, rfl⟩
    · rcases keyIs_shape hv with ⟨j, u, rfl, rfl⟩ | ⟨y, u, rfl, rfl⟩
      · rw [key_ll] at h; exact wpAny_eqBool_int h
      · rw [key_lr] at h; exact SeqAt.EqAt.int_str i t y u _ _ _ _ h
    · rcases keyIs_shape hv with ⟨j, u, rfl, rfl⟩ | ⟨y, u, rfl, rfl⟩
      · rw [key_rl] at h; exact SeqAt.EqAt.str_int x t j u _ _ _ _ h
      · rw [key_rr] at h; exact wpAny_eqBool_str h
  «strs» := fun k x t v h => by
    rcases keyIs_shape h with ⟨i, u, rfl, e⟩ | ⟨y, u, rfl, e⟩
    · exact nomatch e
    · injection e with e1 _
      subst e1
      cases v <;> rfl

theorem mixKind_int (prog : Program) (w : World) (i : Int) (t : Tok) : (mixKind prog w).is (.inl i) (.int i t) = true := keyIs_int i t
theorem mixKind_str (prog : Program) (w : World) (x : Str) (t : Tok) : (mixKind prog w).is (.inr x) (.str x t) = true := keyIs_str x t
end L2

namespace L2
open PySem PySem.Spec PyProof.Rows


inductive V where
  | non | bl (b : Bool) | int (i : Int) | str (x : Str) | byt (b : Array UInt8) | flt (b : UInt64) | ref (a : Addr) | ty (n : String)
  deriving DecidableEq

def RelV : V → Value → Prop
  | .non, u => u = Value.none
  | .bl b, u => u = Value.bool b
  | .int i, u => ∃ t, u = Value.int i t
  | .str x, u => ∃ t, u = Value.str x t
  | .byt b, u => ∃ t, u = Value.bytes b t
  | .flt b, u => ∃ t, u = Value.float b t
  | .ref a, u => u = Value.ref a
  | .ty n, u => u = Value.type n

abbrev Vals : List V → List Value → Prop := Paired RelV
theorem Vals.length {xs : List V} {us : List Value} (r : Vals xs us) : xs.length = us.length := Paired.length r
theorem Vals.get : ∀ {xs : List V} {us : List Value} {i : Nat} {x : V}, Vals xs us → xs[i]? = some x → ∃ u, us[i]? = some u ∧ RelV x u
  | _, _, _, _, .nil, e => by simp at e
  | _, _, 0, _, .cons r _, e => by simp at e; subst e; exact ⟨_, rfl, r⟩
  | _, _, i + 1, x, .cons _ t, e => by
    obtain ⟨u, h1, h2⟩ := Vals.get (i := i) (x := x) t (by simpa using e)
    exact ⟨u, by simpa using h1, h2⟩
theorem Vals.set {x : V} {u : Value} (r : RelV x u) : ∀ {xs : List V} {us : List Value} (i : Nat), Vals xs us → Vals (xs.set i x) (us.set i u)
  | _, _, _, .nil => .nil
  | _, _, 0, .cons _ t => .cons r t
  | _, _, i + 1, .cons q t => .cons q (Vals.set r i t)
theorem Vals.append : ∀ {xs ys : List V} {us ws : List Value}, Vals xs us → Vals ys ws → Vals (xs ++ ys) (us ++ ws)
  | _, _, _, _, .nil, s => s
  | _, _, _, _, .cons r t, s => .cons r (Vals.append t s)
theorem Vals.take : ∀ {xs : List V} {us : List Value} (n : Nat), Vals xs us → Vals (xs.take n) (us.take n)
  | _, _, 0, _ => .nil
  | _, _, _ + 1, .nil => .nil
  | _, _, n + 1, .cons r t => .cons r (Vals.take n t)
theorem Vals.drop : ∀ {xs : List V} {us : List Value} (n : Nat), Vals xs us → Vals (xs.drop n) (us.drop n)
  | _, _, 0, r => r
  | _, _, _ + 1, .nil => .nil
  | _, _, n + 1, .cons _ t => Vals.drop n t
theorem Vals.none_of : ∀ {xs : List V} {us : List Value} {i : Nat}, Vals xs us → xs[i]? = none → us[i]? = none := fun {xs us i} r e => by
  have h1 := r.length
  have h2 : xs.length ≤ i := List.getElem?_eq_none_iff.mp e
  exact List.getElem?_eq_none_iff.mpr (by omega)

def RelO : Option V → Option Value → Prop
  | some v, some u => RelV v u
  | none, none => True
  | _, _ => False
def KV {κ : Type} : List (κ × V) → List (κ × Value) → Prop := Paired fun (p : κ × V) (q : κ × Value) => p.1 = q.1 ∧ RelV p.2 q.2


def kV : Key → V
  | .inl i => .int i
  | .inr x => .str x


inductive HO where
  
  | lst (xs : List V)
  
  | tup (xs : List V)
  
  | dK (kvs : List (Key × V)) | dT (kvs : List (List Key × V))
  
  | set (S : Int → Bool) (n : Nat)
  
  | ins (C dx : Addr) (fs : List (Str × V))
  
  | own (x : Addr)
  
  | xd (fs : List (Str × V))
  
  | met (f x : Addr)
  
  | rng (lo hi : Int)
  
  | frz (o : Obj) (u : HO)
  
  | tbl (ps : Array Value)
  
  | ext (φ : Heap → Prop)

abbrev Hp := Addr → Option HO
def upd (H : Hp) (a : Addr) (o : HO) : Hp := fun b => if b = a then some o else H b
theorem upd_same {H : Hp} {a : Addr} {o : HO} : upd H a o a = some o := by unfold upd; rw [if_pos rfl]
theorem upd_ne {H : Hp} {a b : Addr} {o : HO} (h : b ≠ a) : upd H a o b = H b := by unfold upd; rw [if_neg h]
theorem upd_upd {H : Hp} {a : Addr} {o u : HO} : upd (upd H a o) a u = upd H a u := by
  funext b; unfold upd; split <;> rfl

theorem ne_of {H : Hp} {a b : Addr} {o u : HO} (h : H a = some o) (h' : H b = some u) (d : o ≠ u) : a ≠ b := by
  intro e; subst e; rw [h] at h'; exact d (Option.some.inj h')
theorem ne_of_none {H : Hp} {a b : Addr} {o : HO} (h : H a = some o) (h' : H b = none) : a ≠ b := by
  intro e; subst e; rw [h] at h'; cases h'

section
variable (P : Program) (w : World)
def ObjOk (H : Hp) (h : Heap) (a : Addr) : HO → Prop
  | .lst xs => xs.length ≤ sizeLine ∧ ∃ (its : List Value) (n : Nat), Vals xs its ∧ h.get? a = some { cls := .type "list", data := .seq its.toArray n }
  | .tup xs => xs.length ≤ sizeLine ∧ ∃ its : List Value, Vals xs its ∧ IsTup h a its.toArray
  | .dK kvs => kvs.length ≤ sizeLine ∧ (a == sysModules) = false ∧ ∃ vs, KV kvs vs ∧ h.DictOf (mixKind P w) a vs
  | .dT kvs => kvs.length ≤ sizeLine ∧ (a == sysModules) = false ∧ ∃ xs : List (List Key × Addr × Value),
      Paired (fun (p : List Key × V) (q : List Key × Addr × Value) => p.1 = q.1 ∧ H q.2.1 = some (.tup (p.1.map kV)) ∧ RelV p.2 q.2.2) kvs xs ∧
      ∃ o es ep, h.get? a = some o ∧ o.ExactDict ∧ o.data = .dict es ep ∧ es.toList = xs.map (entryOfKey (tupleKind (mixKind P w))) ∧ (xs.map (·.1)).Nodup
  | .set S n => h.SetOf (intKind P w) a S n
  | .ins C dx fs => H dx = some (.own a) ∧ fs.length ≤ 1000 ∧ dx ≠ a ∧ h.get? a = some (PySem.W.instObj C dx) ∧
      ∃ mA, h.Ns1 dx mA ∧ (∀ f, RelO (fs.lookup f) (mA f)) ∧ PySem.Within mA (fs.map (·.1))
  | .own _ => ∃ o, h.get? a = some o
  | .xd fs => ∃ mA, h.Ns1 a mA ∧ ∀ f, RelO (fs.lookup f) (mA f)
  | .rng lo hi => ∃ t u v, h.get? a = some { cls := .type "range", data := .fields #[.int lo t, .int hi u, .int 1 v] }
  | .frz o u => h.get? a = some o ∧ ObjOk H h a u
  | .tbl ps => h.get? a = some { cls := .none, data := .fields ps }
  | .met f x => h.get? a = some (PySem.W.methodObj (.ref f) (.ref x))
  | .ext φ => φ h ∧ (∃ o, h.get? a = some o) ∧ ∀ h1 h2 : Heap, φ h1 → (∀ o, h1.get? a = some o → h2.get? a = some o) → φ h2

def HOk (H : Hp) (h : Heap) : Prop := ∀ a o, H a = some o → ObjOk P w H h a o
end

section
variable {P : Program} {w : World} {H H' : Hp} {h h' : Heap} {a : Addr} {o : HO}
theorem ObjOk.lt (x : ObjOk P w H h a o) : a < h.objs.size := by
  cases o with
  | lst xs => obtain ⟨_, _, _, _, e⟩ := x; exact Heap.lt_size e
  | tup xs => obtain ⟨_, _, _, p⟩ := x; exact p.lt
  | dK kvs => obtain ⟨_, _, _, _, o, _, _, e, _⟩ := x; exact Heap.lt_size e
  | dT kvs => obtain ⟨_, _, _, _, o, _, _, e, _⟩ := x; exact Heap.lt_size e
  | set S n => obtain ⟨o, _, _, _, e, _⟩ := x; exact Heap.lt_size e
  | ins C dx fs => obtain ⟨_, _, _, e, _⟩ := x; exact Heap.lt_size e
  | own y => obtain ⟨_, e⟩ := x; exact Heap.lt_size e
  | xd fs => obtain ⟨_, ⟨_, _, _, e, _⟩, _⟩ := x; exact Heap.lt_size e
  | rng lo hi => obtain ⟨_, _, _, e⟩ := x; exact Heap.lt_size e
  | frz ob u => obtain ⟨e, _⟩ := x; exact Heap.lt_size e
  | tbl ps => exact Heap.lt_size (show h.get? a = some _ from x)
  | met f y => exact Heap.lt_size (show h.get? a = some _ from x)
  | ext φ => obtain ⟨_, ⟨_, e⟩, _⟩ := x; exact Heap.lt_size e
theorem Paired.mapP {α β : Type} {F G : α → β → Prop} : ∀ {l₁ : List α} {l₂ : List β}, Paired F l₁ l₂ → (∀ a b, F a b → G a b) → Paired G l₁ l₂
  | _, _, .nil, _ => .nil
  | _, _, .cons r t, f => .cons (f _ _ r) (Paired.mapP t f)
theorem ObjOk.stay (x : ObjOk P w H h a o) (k : ∀ b u, (b = a ∨ H b = some (.own a)) → h.get? b = some u → h'.get? b = some u)
    (ho : ∀ b, H b = some (.own a) → H' b = some (.own a)) (ht : ∀ b xs, H b = some (.tup xs) → H' b = some (.tup xs)) : ObjOk P w H' h' a o := by
  induction o with
  | lst xs => obtain ⟨z, its, n, r, e⟩ := x; exact ⟨z, its, n, r, k _ _ (.inl rfl) e⟩
  | tup xs => obtain ⟨z, its, r, ob, e, c⟩ := x; exact ⟨z, its, r, ob, k _ _ (.inl rfl) e, c⟩
  | dK kvs => obtain ⟨z, y, vs, r, ob, es, ep, e, c⟩ := x; exact ⟨z, y, vs, r, ob, es, ep, k _ _ (.inl rfl) e, c⟩
  | dT kvs =>
    obtain ⟨z, y, xs, r, ob, es, ep, e, c⟩ := x
    exact ⟨z, y, xs, Paired.mapP r fun p q z => ⟨z.1, ht _ _ z.2.1, z.2.2⟩, ob, es, ep, k _ _ (.inl rfl) e, c⟩
  | set S n => obtain ⟨ob, es, ep, t, e, c⟩ := x; exact ⟨ob, es, ep, t, k _ _ (.inl rfl) e, c⟩
  | ins C dx fs =>
    obtain ⟨d, z, ne, e, mA, ⟨od, es, ep, e2, c⟩, r⟩ := x
    exact ⟨ho _ d, z, ne, k _ _ (.inl rfl) e, mA, ⟨od, es, ep, k _ _ (.inr d) e2, c⟩, r⟩
  | own y => obtain ⟨ob, e⟩ := x; exact ⟨ob, k _ _ (.inl rfl) e⟩
  | xd fs => obtain ⟨mA, ⟨od, es, ep, e, c⟩, r⟩ := x; exact ⟨mA, ⟨od, es, ep, k _ _ (.inl rfl) e, c⟩, r⟩
  | rng lo hi => obtain ⟨t, u, v, e⟩ := x; exact ⟨t, u, v, k _ _ (.inl rfl) e⟩
  | frz ob u ih => obtain ⟨e, q⟩ := x; exact ⟨k _ _ (.inl rfl) e, ih q⟩
  | tbl ps =>
    have e : h.get? a = some { cls := .none, data := .fields ps } := x
    show h'.get? a = some { cls := .none, data := .fields ps }
    exact k a _ (.inl rfl) e
  | met f y =>
    have e : h.get? a = some (PySem.W.methodObj (.ref f) (.ref y)) := x
    show h'.get? a = some (PySem.W.methodObj (.ref f) (.ref y))
    exact k a _ (.inl rfl) e
  | ext φ => obtain ⟨p, ⟨o, e⟩, st⟩ := x; exact ⟨st _ _ p fun o q => k _ _ (.inl rfl) q, ⟨o, k _ _ (.inl rfl) e⟩, st⟩
theorem HOk.lt (x : HOk P w H h) (e : H a = some o) : a < h.objs.size := (x a o e).lt
theorem HOk.fresh (x : HOk P w H h) (e : h.objs.size ≤ a) : H a = none := by
  cases q : H a with
  | none => rfl
  | some u => exact absurd (Nat.lt_of_lt_of_le (x.lt q) e) (Nat.lt_irrefl _)

theorem HOk.kept (x : HOk P w H h) (k : ∀ b u, h.get? b = some u → h'.get? b = some u) : HOk P w H h' := fun a o e =>
  (x a o e).stay (fun b u _ q => k b u q) (fun _ q => q) fun _ _ q => q

theorem HOk.laid (x : HOk P w H h) (k : ∀ b u, h.get? b = some u → h'.get? b = some u) (hp : h.objs.size ≤ a) (new : ObjOk P w (upd H a o) h' a o) : HOk P w (upd H a o) h' := fun b u e => by
  have hn := x.fresh hp
  by_cases hb : b = a
  · subst hb; rw [upd_same] at e; cases e; exact new
  · rw [upd_ne hb] at e
    exact (x b u e).stay (fun c v _ q => k c v q) (fun c q => by rw [upd_ne (ne_of_none q hn)]; exact q) fun c xs q => by rw [upd_ne (ne_of_none q hn)]; exact q
end


def Rd (H : Hp) (a : Addr) (u : HO) : Prop := H a = some u ∨ ∃ o, H a = some (.frz o u)
theorem Rd.of {H : Hp} {a : Addr} {u : HO} (h : H a = some u) : Rd H a u := .inl h
theorem Rd.ok {P : Program} {w : World} {H : Hp} {h : Heap} {a : Addr} {u : HO} (r : Rd H a u) (x : HOk P w H h) : ObjOk P w H h a u := by
  rcases r with r | ⟨o, r⟩
  · exact x a u r
  · obtain ⟨_, q⟩ := x a _ r
    exact q

def Mut : Option HO → Prop
  | some (.lst _) => True
  | some (.dK _) => True
  | some (.dT _) => True
  | some (.set _ _) => True
  | some (.ins _ _ _) => True
  | some (.ext _) => True
  | _ => False
section
variable {P : Program} {w : World} {H : Hp} {h h' : Heap} {x e : Addr} {o' : HO}

theorem HOk.write (ok : HOk P w H h) (mu : Mut (H x)) (he : e = x ∨ H e = some (.own x)) (k : ∀ b u, b ≠ e → h.get? b = some u → h'.get? b = some u) (heo : ∃ u, h'.get? e = some u)
    (new : ObjOk P w (upd H x o') h' x o') : HOk P w (upd H x o') h' := fun b u q => by
  have nown : ∀ c y, H c = some (.own y) → c ≠ x := fun c y r z => by subst z; rw [r] at mu; exact mu
  have ntup : ∀ c xs, H c = some (.tup xs) → c ≠ x := fun c xs r z => by subst z; rw [r] at mu; exact mu
  by_cases hb : b = x
  · subst hb; rw [upd_same] at q; cases q; exact new
  · rw [upd_ne hb] at q
    by_cases hbe : b = e
    · have q' : H b = some (.own x) := by
        rcases he with z | z
        · exact absurd (hbe.trans z) hb
        · rw [hbe]; exact z
      rw [q] at q'; cases q'
      obtain ⟨v, hv⟩ := heo
      exact ⟨v, by rw [hbe]; exact hv⟩
    · refine (ok b u q).stay (fun c v hc r => k c v ?_ r) (fun c r => by rw [upd_ne (nown c b r)]; exact r) fun c xs r => by rw [upd_ne (ntup c xs r)]; exact r
      rcases hc with rfl | hc
      · exact hbe
      · rintro rfl
        rcases he with z | z
        · exact nown c b hc z
        · rw [hc] at z; cases z; exact hb rfl
end


structure Un (fs ex : List Addr) (H H' : Hp) (h h' : Heap) : Prop where
  keep : ∀ b o, h.get? b = some o → H b = none → b ∉ fs → b ∉ ex → h'.get? b = some o
  slot : ∀ b o, h.get? b = some o → H b = none → b ∈ fs → b ∉ ex → ∃ sl, h'.get? b = some { o with slots := sl }
  free : ∀ b o, h.get? b = some o → H b = none → b ∉ ex → H' b = none
  there : ∀ b o, h.get? b = some o → b ∉ ex → ∃ o', h'.get? b = some o'
  tups : ∀ b xs, H b = some (.tup xs) → H' b = some (.tup xs)
  frzs : ∀ b o u, H b = some (.frz o u) → H' b = some (.frz o u)
  tbls : ∀ b ps, H b = some (.tbl ps) → ∃ more, H' b = some (.tbl (ps ++ more))
section
variable {fs fs' ex ex' : List Addr} {H H1 H2 : Hp} {h h1 h2 h' : Heap} {a x e : Addr} {o : HO}
theorem Un.any (u : Un fs ex H H1 h h1) {b : Addr} {ob : Obj} (q : h.get? b = some ob) (n : H b = none) (hx : b ∉ ex) : ∃ sl, h1.get? b = some { ob with slots := sl } := by
  by_cases hb : b ∈ fs
  · exact u.slot b ob q n hb hx
  · exact ⟨ob.slots, u.keep b ob q n hb hx⟩
theorem Un.trans (a : Un fs ex H H1 h h1) (b : Un fs ex H1 H2 h1 h2) : Un fs ex H H2 h h2 where
  keep := fun c ob q n hc hx => b.keep c ob (a.keep c ob q n hc hx) (a.free c ob q n hx) hc hx
  slot := fun c ob q n hc hx => by
    obtain ⟨sl, e1⟩ := a.slot c ob q n hc hx
    obtain ⟨sl', e2⟩ := b.slot c _ e1 (a.free c ob q n hx) hc hx
    exact ⟨sl', e2⟩
  free := fun c ob q n hx => by
    obtain ⟨o', e1⟩ := a.there c ob q hx
    exact b.free c o' e1 (a.free c ob q n hx) hx
  there := fun c ob q hx => by
    obtain ⟨o', e1⟩ := a.there c ob q hx
    exact b.there c o' e1 hx
  tups := fun c xs q => b.tups c xs (a.tups c xs q)
  frzs := fun c ob xs q => b.frzs c ob xs (a.frzs c ob xs q)
  tbls := fun c ps q => by
    obtain ⟨m1, e1⟩ := a.tbls c ps q
    obtain ⟨m2, e2⟩ := b.tbls c _ e1
    exact ⟨m1 ++ m2, by rw [e2, Array.append_assoc]⟩
theorem Un.kept (k : ∀ b u, h.get? b = some u → h'.get? b = some u) : Un fs ex H H h h' :=
  ⟨fun b ob q _ _ _ => k b ob q, fun b ob q _ _ _ => ⟨ob.slots, k b ob q⟩, fun _ _ _ n _ => n, fun b ob q _ => ⟨ob, k b ob q⟩, fun _ _ q => q, fun _ _ _ q => q, fun _ ps q => ⟨#[], by rw [q]; simp⟩⟩
theorem Un.refl : Un fs ex H H h h := Un.kept fun _ _ q => q
theorem Un.laid (k : ∀ b u, h.get? b = some u → h'.get? b = some u) (hp : h.objs.size ≤ a) (hn : H a = none) : Un fs ex H (upd H a o) h h' where
  keep := fun b u q _ _ _ => k b u q
  slot := fun b u q _ _ _ => ⟨u.slots, k b u q⟩
  free := fun b u q n _ => by rw [upd_ne (Nat.ne_of_lt (Nat.lt_of_lt_of_le (Heap.lt_size q) hp))]; exact n
  there := fun b u q _ => ⟨u, k b u q⟩
  tups := fun b xs q => by rw [upd_ne (ne_of_none q hn)]; exact q
  frzs := fun b u xs q => by rw [upd_ne (ne_of_none q hn)]; exact q
  tbls := fun b ps q => ⟨#[], by rw [upd_ne (ne_of_none q hn), q]; simp⟩
theorem Un.write (mu : Mut (H x)) (he : e = x ∨ H e = some (.own x)) (k : ∀ b u, b ≠ e → h.get? b = some u → h'.get? b = some u) (heo : ∃ u, h'.get? e = some u) : Un fs ex H (upd H x o) h h' := by
  have hx : ∀ b, H b = none → b ≠ x := fun b n z => by subst z; rw [n] at mu; exact mu
  have hb : ∀ b, H b = none → b ≠ e := fun b n z => by
    subst z
    rcases he with r | r
    · exact hx b n r
    · rw [n] at r; cases r
  have hm : ∀ b u, H b = some u → ¬ Mut (some u) → b ≠ x := fun b u q nm z => by subst z; rw [q] at mu; exact nm mu
  refine ⟨fun b u q n _ _ => k b u (hb b n) q, fun b u q n _ _ => ⟨u.slots, k b u (hb b n) q⟩, fun b u q n _ => by rw [upd_ne (hx b n)]; exact n, fun b u q _ => ?_,
    fun b xs q => by rw [upd_ne (hm b _ q fun z => z)]; exact q, fun b u xs q => by rw [upd_ne (hm b _ q fun z => z)]; exact q, fun b ps q => ⟨#[], by rw [upd_ne (hm b _ q fun z => z), q]; simp⟩⟩
  by_cases hbe : b = e
  · subst hbe; exact heo
  · exact ⟨u, k b u hbe q⟩
theorem Un.mono (u : Un fs ex H H1 h h1) (hs : ∀ b ∈ fs, b ∈ fs') (hx : ∀ b ∈ ex, b ∈ ex') : Un fs' ex' H H1 h h1 :=
  ⟨fun b ob q n hb he => u.keep b ob q n (fun z => hb (hs b z)) fun z => he (hx b z), fun _ _ q n _ he => u.any q n fun z => he (hx _ z), fun b ob q n he => u.free b ob q n fun z => he (hx b z), fun b ob q he => u.there b ob q fun z => he (hx b z), u.tups, u.frzs, u.tbls⟩
end


def trk (h : Heap) (H : Hp) : List Addr := (List.range h.objs.size).filter fun a => (H a).isSome
def hidT (h : Heap) (H : Hp) : Heap := PySem.W.hideAll h (trk h H)
theorem hidT_size (h : Heap) (H : Hp) : (hidT h H).objs.size = h.objs.size := PySem.W.hideAll_size _ _
theorem hidT_get {h : Heap} {H : Hp} {b : Addr} {o : Obj} (e : h.get? b = some o) (n : H b = none) : (hidT h H).get? b = some o :=
  PySem.W.hideAll_get _ e fun hm => by
    have q : (H b).isSome = true := (List.mem_filter.mp hm).2
    rw [n] at q; simp at q
theorem of_hidT {h : Heap} {H : Hp} {b : Addr} {o : Obj} (e : (hidT h H).get? b = some o) : h.get? b = some o ∧ H b = none := by
  have e' : h.get? b = some o := PySem.W.of_hideAll (trk h H) e
  refine ⟨e', ?_⟩
  cases q : H b with
  | none => rfl
  | some x =>
    have hm : b ∈ trk h H := List.mem_filter.mpr ⟨List.mem_range.mpr (Heap.lt_size e'), by simp [q]⟩
    have z : (hidT h H).get? b = none := PySem.W.hideAll_none (trk h H) hm
    rw [z] at e; cases e


def allNews (g h : Heap) (L : Addr) : List (Addr × Obj) := (List.range h.objs.size).filterMap fun a => if a = L ∨ (g.get? a).isSome = true then none else (h.get? a).map fun o => (a, o)
def rest (g h : Heap) (L d : Addr) : List (Addr × Obj) := (allNews g h L).filter fun p => decide (p.1 ≠ d)
end L2

namespace L2
open PySem PySem.Spec PyProof.Rows


structure Mod (K : PySem.W.Frag) (mg : Str → Option Value) (base : Heap) : Prop where
  kin : K.In base
  glob : base.Ns mainGlobals mg
  blt : ∃ mb, base.Ns builtinsNs mb ∧ ∀ x : Str, x ≠ "__name__" → mb x = bootBuiltins x
  nolimit : base.NoLimit


structure Cx where
  prog : Program
  w : World
  K : PySem.W.Frag
  mg : Str → Option Value
  base : Heap
  A : Around
  N : List Str
  s₀ : Shared
  H₀ : Hp
  env : Env
  outer : List Env
  stack : List Env
  ex : List Addr
  fn : Str → Bool
  calm : Bool
  pn : List (Addr × Obj)
  xe : Value → Shared → Prop

def frs (l : List Env) : List Addr := l.filterMap (·.frame)
abbrev Cx.fs (X : Cx) : List Addr := frs X.outer

def Vis (sc : Scope) (x : Str) : Prop := sc.names.lookup x = some .local ∨ sc.names.lookup x = some .cell ∨ sc.names.lookup x = some .free
def Loc (sc : Scope) (x : Str) : Prop := sc.names.lookup x = some .local ∨ sc.names.lookup x = some .cell
def Look (env : Env) (h : Heap) (m : Str → Option Value) (x : Str) (u : Value) : Prop :=
  (env.kindOf x = some .local ∧ m x = some u) ∨ ((env.kindOf x = some .cell ∨ env.kindOf x = some .free) ∧ ∃ c, env.cells.lookup x = some c ∧ h.IsCell c (some u))

structure Cx.Ok (X : Cx) : Prop where
  mod : Mod X.K X.mg X.base
  kind : X.env.scope.kind = .function
  glob : X.env.globals = mainGlobals
  blt : X.env.builtins = builtinsNs
  above : X.s₀.heap.objs.size ≤ X.env.locals
  inj : ∀ x y c, X.env.cells.lookup x = some c → X.env.cells.lookup y = some c → x = y
  has : ∀ x, (X.env.kindOf x = some .cell ∨ X.env.kindOf x = some .free) → ∃ c, X.env.cells.lookup x = some c
  cab : ∀ x c, X.fn x = true → X.env.cells.lookup x = some c → X.s₀.heap.objs.size ≤ c
  hd : X.calm = true → X.A.handled = none
  frames : X.A.frames = some X.stack
  stk : X.stack = X.outer ∨ (X.stack = X.env :: X.outer ∧ X.env.frame = some X.env.locals)
  exf : ∀ b ∈ X.ex, b ≠ X.env.locals ∧ ∀ x c, X.env.cells.lookup x = some c → c ≠ b
  bs : ∀ b o, X.base.get? b = some o → X.s₀.heap.get? b = some o ∧ X.H₀ b = none
  bsz : X.base.objs.size ≤ X.s₀.heap.objs.size
  noex : ∀ b o, X.base.get? b = some o → b ∉ X.ex
  exfs : ∀ b ∈ X.ex, b ∉ X.fs
  funs : X.s₀.heap.FunFrames X.base X.outer
  frf : ∀ b ∈ X.fs, X.H₀ b = none

structure Inv (X : Cx) (pins : List (Addr × Obj)) (σ : List (Option V)) (H : Hp) (s : Shared) : Prop where
  ok : X.Ok
  os : s.os = X.s₀.os
  bare : AllBare s.gens
  base : Un X.fs X.ex X.H₀ H X.s₀.heap s.heap
  loc : ∃ m, s.heap.Ns X.env.locals m ∧ ∀ (i : Nat) (x : Str) (v : V), X.N[i]? = some x → σ[i]? = some (some v) → Vis X.env.scope x → ∃ u, RelV v u ∧ Look X.env s.heap m x u
  cell : ∀ x c, X.env.cells.lookup x = some c → ∃ v, s.heap.IsCell c v
  free : H X.env.locals = none
  freeC : ∀ x c, X.env.cells.lookup x = some c → H c = none
  pin : ∀ p ∈ X.pn ++ pins, s.heap.get? p.1 = some p.2 ∧ H p.1 = none ∧ p.1 ≠ X.env.locals ∧ p.1 ∉ X.fs ∧ ∀ v, p.2.data ≠ .cell v
  hok : HOk X.prog X.w H s.heap
  len : σ.length = X.N.length

section
variable {X : Cx} {pins : List (Addr × Obj)} {σ : List (Option V)} {H H' : Hp} {s : Shared} {h' : Heap}

theorem Cx.Ok.nofr (ok : X.Ok) {b : Addr} {o : Obj} (e : X.base.get? b = some o) : b ∉ X.fs := fun hb => by
  have := (ok.funs.mem hb).1
  rw [e] at this; cases this
theorem Inv.bs (I : Inv X pins σ H s) : ∀ b o, X.base.get? b = some o → s.heap.get? b = some o ∧ H b = none := fun b o e =>
  ⟨I.base.keep b o (I.ok.bs b o e).1 (I.ok.bs b o e).2 (I.ok.nofr e) (I.ok.noex b o e), I.base.free b o (I.ok.bs b o e).1 (I.ok.bs b o e).2 (I.ok.noex b o e)⟩
theorem Inv.bk (I : Inv X pins σ H s) : ∀ b o, X.base.get? b = some o → s.heap.get? b = some o := fun b o e => (I.bs b o e).1
theorem Inv.mod (I : Inv X pins σ H s) : Mod X.K X.mg X.base := I.ok.mod
theorem Inv.kIn (I : Inv X pins σ H s) : X.K.In s.heap := I.ok.mod.kin.keeps I.bk
theorem Inv.nolimit (I : Inv X pins σ H s) : s.heap.NoLimit := I.ok.mod.nolimit.keeps I.bk

theorem Inv.fr (I : Inv X pins σ H s) : ∃ m, Fr X.base X.env.locals s.heap m :=
  let ⟨m, hn, _⟩ := I.loc
  ⟨m, hn, I.bk, Nat.le_trans I.ok.bsz I.ok.above⟩
theorem Inv.lt (I : Inv X pins σ H s) : X.env.locals < s.heap.objs.size := let ⟨_, hn, _⟩ := I.loc; hn.lt
theorem Inv.sz (I : Inv X pins σ H s) : X.s₀.heap.objs.size ≤ s.heap.objs.size := Nat.le_trans I.ok.above (Nat.le_of_lt I.lt)
theorem Inv.nofs (I : Inv X pins σ H s) {a : Addr} (h : s.heap.objs.size ≤ a) : a ∉ X.fs := fun hb => by
  obtain ⟨_, o, ho, _⟩ := I.ok.funs.mem hb
  exact absurd (Nat.lt_of_lt_of_le (Heap.lt_size ho) (Nat.le_trans I.sz h)) (Nat.lt_irrefl _)
theorem Inv.cne (I : Inv X pins σ H s) : ∀ x c, X.env.cells.lookup x = some c → c ≠ X.env.locals := fun x c e z => by
  obtain ⟨v, o, ho, hd⟩ := I.cell x c e
  obtain ⟨m, ⟨o', es, ep, ho', hd', _⟩, _⟩ := I.loc
  rw [z, ho'] at ho; cases ho; rw [hd'] at hd; cases hd
theorem Inv.funs (I : Inv X pins σ H s) : s.heap.FunFrames X.base X.outer := by
  have all : ∀ (l : List Env), (∀ b ∈ frs l, b ∈ X.fs) → X.s₀.heap.FunFrames X.base l → s.heap.FunFrames X.base l := by
    intro l
    induction l with
    | nil => intro _ _; trivial
    | cons env r ih =>
      intro hs hl
      obtain ⟨hk, ⟨L, o, hf, hn, ho, hd⟩, hr⟩ := hl
      have hL : L ∈ X.fs := hs L (by unfold frs; rw [List.filterMap_cons, hf]; exact List.mem_cons_self)
      obtain ⟨sl, e⟩ := I.base.slot L o ho (I.ok.frf L hL) hL fun z => I.ok.exfs L z hL
      exact ⟨hk, ⟨L, _, hf, hn, e, hd⟩, ih (fun b hb => hs b (by unfold frs; rw [List.filterMap_cons, hf]; exact List.mem_cons_of_mem _ hb)) hr⟩
  exact all X.outer (fun _ hb => hb) I.ok.funs


theorem Inv.stack (I : Inv X pins σ H s) : s.heap.FunFrames X.base X.stack := by
  rcases I.ok.stk with e | ⟨e, hf⟩
  · rw [e]; exact I.funs
  · rw [e]
    obtain ⟨m, hn, _⟩ := I.loc
    refine .cons (by rw [I.ok.kind]; decide) hf hn ?_ I.funs
    exact Heap.get?_none_of_le (Nat.le_trans I.ok.bsz I.ok.above)
theorem Inv.stkSub (I : Inv X pins σ H s) : ∀ b ∈ frs X.stack, b ∈ X.env.locals :: X.fs := fun b hb => by
  rcases I.ok.stk with e | ⟨e, hf⟩
  · rw [e] at hb; exact List.mem_cons_of_mem _ hb
  · rw [e] at hb
    unfold frs at hb
    rw [List.filterMap_cons, hf] at hb
    exact hb
theorem Inv.stkFree (I : Inv X pins σ H s) : ∀ b ∈ frs X.stack, H b = none := fun b hb => by
  rcases List.mem_cons.mp (I.stkSub b hb) with e | hb
  · rw [e]; exact I.free
  · obtain ⟨_, o, ho, _⟩ := I.ok.funs.mem hb
    exact I.base.free b o ho (I.ok.frf b hb) fun z => I.ok.exfs b z hb


theorem Inv.step {g' : Array GenState} {t' : Nat} {d' : Drawn} {ch : List Addr} (I : Inv X pins σ H s)
    (hch : ∀ b ∈ ch, (b ∈ X.ex ∨ X.s₀.heap.objs.size ≤ b) ∧ b ≠ X.env.locals ∧ (∀ x c, X.env.cells.lookup x = some c → c ≠ b) ∧ ∀ p ∈ X.pn ++ pins, p.1 ≠ b)
    (keep : ∀ b o, b ≠ X.env.locals → b ∉ X.fs → b ∉ ch → s.heap.get? b = some o → H b = none → h'.get? b = some o)
    (slot : ∀ b o, b ≠ X.env.locals → b ∈ X.fs → b ∉ ch → s.heap.get? b = some o → H b = none → ∃ sl, h'.get? b = some { o with slots := sl }) (free : ∀ b o, b ∉ ch → s.heap.get? b = some o → H b = none → H' b = none)
    (there : ∀ b o, b ∉ ch → s.heap.get? b = some o → ∃ o', h'.get? b = some o')
    (tups : ∀ b xs, H b = some (.tup xs) → H' b = some (.tup xs)) (frzs : ∀ b o u, H b = some (.frz o u) → H' b = some (.frz o u)) (tbls : ∀ b ps, H b = some (.tbl ps) → ∃ more, H' b = some (.tbl (ps ++ more)))
    (ns : ∀ m, s.heap.Ns X.env.locals m → h'.Ns X.env.locals m) (hok : HOk X.prog X.w H' h') (hg : AllBare g') :
    Inv X pins σ H' { s with heap := h', gens := g', drawn := d', toks := t' } := by
  have neL : ∀ b o, X.s₀.heap.get? b = some o → b ≠ X.env.locals := fun b o e => Nat.ne_of_lt (Nat.lt_of_lt_of_le (Heap.lt_size e) I.ok.above)
  have neC : ∀ b o, X.s₀.heap.get? b = some o → b ∉ X.ex → b ∉ ch := fun b o e hx hb => by
    rcases (hch b hb).1 with z | z
    · exact hx z
    · exact absurd (Nat.lt_of_lt_of_le (Heap.lt_size e) z) (Nat.lt_irrefl _)
  have cellK : ∀ x c, X.env.cells.lookup x = some c → ∀ v, s.heap.IsCell c v → h'.IsCell c v := fun x c e v ⟨o, ho, hd⟩ => by
    have nch : c ∉ ch := fun z => (hch c z).2.2.1 x c e rfl
    by_cases hc : c ∈ X.fs
    · obtain ⟨sl, q⟩ := slot c o (I.cne x c e) hc nch ho (I.freeC x c e)
      exact ⟨_, q, hd⟩
    · exact ⟨o, keep c o (I.cne x c e) hc nch ho (I.freeC x c e), hd⟩
  refine ⟨I.ok, I.os, hg, ⟨fun b o e n hb hx => ?_, fun b o e n hb hx => ?_, fun b o e n hx => ?_, fun b o e hx => ?_, fun b xs e => tups b xs (I.base.tups b xs e), fun b o xs e => frzs b o xs (I.base.frzs b o xs e), fun b ps e => ?_⟩, ?_, fun x c e => ?_, ?_, fun x c e => ?_, fun p hp => ?_, hok, I.len⟩
  · exact keep b o (neL b o e) hb (neC b o e hx) (I.base.keep b o e n hb hx) (I.base.free b o e n hx)
  · obtain ⟨sl, e1⟩ := I.base.slot b o e n hb hx
    obtain ⟨sl', e2⟩ := slot b _ (neL b o e) hb (neC b o e hx) e1 (I.base.free b o e n hx)
    exact ⟨sl', e2⟩
  · obtain ⟨o', e1⟩ := I.base.there b o e hx
    exact free b o' (neC b o e hx) e1 (I.base.free b o e n hx)
  · obtain ⟨o', e1⟩ := I.base.there b o e hx
    exact there b o' (neC b o e hx) e1
  · obtain ⟨m1, e1⟩ := I.base.tbls b ps e
    obtain ⟨m2, e2⟩ := tbls b _ e1
    exact ⟨m1 ++ m2, by rw [e2, Array.append_assoc]⟩
  · obtain ⟨m, hn, hl⟩ := I.loc
    refine ⟨m, ns m hn, fun i x v e1 e2 e3 => ?_⟩
    obtain ⟨u, r, l⟩ := hl i x v e1 e2 e3
    refine ⟨u, r, ?_⟩
    rcases l with l | ⟨k, c, e, z⟩
    · exact .inl l
    · exact .inr ⟨k, c, e, cellK x c e _ z⟩
  · obtain ⟨v, z⟩ := I.cell x c e
    exact ⟨v, cellK x c e v z⟩
  · obtain ⟨m, ⟨o, _, _, ho, _⟩, _⟩ := I.loc
    exact free _ o (fun z => (hch _ z).2.1 rfl) ho I.free
  · obtain ⟨v, o, ho, hd⟩ := I.cell x c e
    exact free c o (fun z => (hch c z).2.2.1 x c e rfl) ho (I.freeC x c e)
  · obtain ⟨e, n, ne, nf, d⟩ := I.pin p hp
    have nch : p.1 ∉ ch := fun z => (hch p.1 z).2.2.2 p hp rfl
    exact ⟨keep p.1 p.2 ne nf nch e n, free p.1 p.2 nch e n, ne, nf, d⟩

theorem Inv.un {t' : Nat} (I : Inv X pins σ H s) (u : Un X.fs [] H H' s.heap h') (hok : HOk X.prog X.w H' h') : Inv X pins σ H' { s with heap := h', toks := t' } := by
  obtain ⟨m, ⟨o, es, ep, ho, r⟩, _⟩ := id I.loc
  obtain ⟨sl, hL⟩ := u.any ho I.free (by simp)
  exact I.step (g' := s.gens) (d' := s.drawn) (ch := []) (fun _ z => nomatch z) (fun b o _ hb _ e n => u.keep b o e n hb (by simp)) (fun b o _ hb _ e n => u.slot b o e n hb (by simp)) (fun b o _ e n => u.free b o e n (by simp)) (fun b o _ e => u.there b o e (by simp)) u.tups u.frzs u.tbls (fun m' hm => by
    obtain ⟨o', es', ep', ho', r'⟩ := hm
    rw [ho] at ho'; cases ho'
    exact ⟨_, es', ep', hL, r'⟩) hok I.bare

theorem Inv.call {g' : Array GenState} {t' : Nat} {d' : Drawn} {ch : List Addr} (I : Inv X pins σ H s) (u : Un (frs X.stack) ch H H' s.heap h') (hok : HOk X.prog X.w H' h') (hg : AllBare g')
    (hch : ∀ b ∈ ch, (b ∈ X.ex ∨ X.s₀.heap.objs.size ≤ b) ∧ b ≠ X.env.locals ∧ (∀ x c, X.env.cells.lookup x = some c → c ≠ b) ∧ ∀ p ∈ X.pn ++ pins, p.1 ≠ b) :
    Inv X pins σ H' { s with heap := h', gens := g', drawn := d', toks := t' } := by
  obtain ⟨m, ⟨o, es, ep, ho, r⟩, _⟩ := id I.loc
  obtain ⟨sl, hL⟩ := u.any ho I.free fun z => (hch _ z).2.1 rfl
  exact I.step (ch := ch) hch (fun b o hL hb hc e n => u.keep b o e n (fun z => (List.mem_cons.mp (I.stkSub b z)).elim hL hb) hc) (fun b o _ _ hc e n => u.any e n hc) (fun b o hc e n => u.free b o e n hc) (fun b o hc e => u.there b o e hc) u.tups u.frzs u.tbls (fun m' hm => by
    obtain ⟨o', es', ep', ho', r'⟩ := hm
    rw [ho] at ho'; cases ho'
    exact ⟨_, es', ep', hL, r'⟩) hok hg

theorem Inv.turned {t' : Nat} {it : Addr} (I : Inv X pins σ H s) (k : ∀ b o, b ≠ it → s.heap.get? b = some o → h'.get? b = some o) (hn : H it = none) (hL : it ≠ X.env.locals)
    (h1 : it ∈ X.ex ∨ X.s₀.heap.objs.size ≤ it) (h2 : ∀ x c, X.env.cells.lookup x = some c → c ≠ it) (h3 : ∀ p ∈ X.pn ++ pins, p.1 ≠ it) : Inv X pins σ H { s with heap := h', toks := t' } := by
  have nit : ∀ b u, H b = some u → b ≠ it := fun b u e z => by rw [z, hn] at e; cases e
  refine I.step (g' := s.gens) (d' := s.drawn) (ch := [it]) (fun b hb => ?_) (fun b o _ _ hc e _ => k b o (fun z => hc (by simp [z])) e) (fun b o _ _ hc e _ => ⟨o.slots, k b o (fun z => hc (by simp [z])) e⟩) (fun _ _ _ _ n => n)
    (fun b o hc e => ⟨o, k b o (fun z => hc (by simp [z])) e⟩) (fun _ _ e => e) (fun _ _ _ e => e) (fun b ps e => ⟨#[], by rw [e]; simp⟩) (fun m hm => ?_) (fun b u e => ?_) I.bare
  · have e : b = it := by simpa using hb
    subst e
    exact ⟨h1, hL, h2, h3⟩
  · obtain ⟨o, es, ep, ho, r⟩ := hm
    exact ⟨o, es, ep, k _ o (Ne.symm hL) ho, r⟩
  · refine (I.hok b u e).stay (fun c v hc q => k c v ?_ q) (fun _ q => q) fun _ _ q => q
    rcases hc with z | z
    · rw [z]; exact nit b u e
    · exact nit c _ z
theorem Inv.tok (I : Inv X pins σ H s) (t : Nat) : Inv X pins σ H { s with toks := t } := I.un (h' := s.heap) (t' := t) Un.refl I.hok

theorem Inv.kept {t' : Nat} (I : Inv X pins σ H s) (k : ∀ b u, s.heap.get? b = some u → h'.get? b = some u) : Inv X pins σ H { s with heap := h', toks := t' } := I.un (Un.kept k) (I.hok.kept k)

theorem Inv.laid {a : Addr} {o : HO} {t' : Nat} (I : Inv X pins σ H s) (k : ∀ b u, s.heap.get? b = some u → h'.get? b = some u) (hp : s.heap.objs.size ≤ a) (new : ObjOk X.prog X.w (upd H a o) h' a o) :
    Inv X pins σ (upd H a o) { s with heap := h', toks := t' } := I.un (Un.laid k hp (I.hok.fresh hp)) (I.hok.laid k hp new)

theorem Inv.write {x e : Addr} {o : HO} {t' : Nat} (I : Inv X pins σ H s) (mu : Mut (H x)) (he : e = x ∨ H e = some (.own x)) (k : ∀ b u, b ≠ e → s.heap.get? b = some u → h'.get? b = some u) (heo : ∃ u, h'.get? e = some u)
    (new : ObjOk X.prog X.w (upd H x o) h' x o) : Inv X pins σ (upd H x o) { s with heap := h', toks := t' } := I.un (Un.write mu he k heo) (I.hok.write mu he k heo new)

theorem Inv.pins_of {pins' : List (Addr × Obj)} (I : Inv X pins σ H s) (h : ∀ p ∈ pins', s.heap.get? p.1 = some p.2 ∧ H p.1 = none ∧ p.1 ≠ X.env.locals ∧ p.1 ∉ X.fs ∧ ∀ v, p.2.data ≠ .cell v) : Inv X pins' σ H s :=
  ⟨I.ok, I.os, I.bare, I.base, I.loc, I.cell, I.free, I.freeC, fun p hp => (List.mem_append.mp hp).elim (fun z => I.pin p (List.mem_append_left _ z)) (h p), I.hok, I.len⟩

theorem nodup_ix {N : List Str} (hN : N.Nodup) {i j : Nat} {x : Str} (a : N[i]? = some x) (b : N[j]? = some x) : i = j := by
  obtain ⟨h1, e1⟩ := List.getElem?_eq_some_iff.mp a
  obtain ⟨h2, e2⟩ := List.getElem?_eq_some_iff.mp b
  exact (List.getElem_inj hN).mp (e1.trans e2.symm)


theorem store_ok2 {M : Model} {A : Around} {E : Value → Shared → Prop} {i : Nat} {x : Str} {v : V} {u : Value} {Q : Unit → Shared → Prop} (I : Inv X pins σ H s) (hN : X.N.Nodup) (hi : X.N[i]? = some x) (hx : Loc X.env.scope x) (r : RelV v u)
    (h : ∀ s', Inv X pins (σ.set i (some v)) H s' → (∃ a, Heap.SameBut a s.heap s'.heap ∧ (a = X.env.locals ∨ X.env.cells.lookup x = some a)) → Q () s') (hf : X.fn x = true ∨ X.env.scope.names.lookup x = some .local := by first | exact .inl rfl | exact .inr rfl | assumption) : wpAny M A (storeName X.env x u) Q E s := by
  obtain ⟨m, hn, hl⟩ := id I.loc
  have hcls : (X.env.scope.kind == .class || (X.env.scope.kind == .module && X.env.locals != X.env.globals)) = false := by rw [I.ok.kind]; rfl
  have hiσ : i < σ.length := by rw [I.len]; exact (List.getElem?_eq_some_iff.mp hi).1
  have cne := I.cne
  have tracked : ∀ {a : Addr} {h' : Heap}, (∃ o, s.heap.get? a = some o ∧ H a = none) → Heap.SameBut a s.heap h' → HOk X.prog X.w H h' := fun {a h'} ha hs b ob e => by
    obtain ⟨_, _, hfree⟩ := ha
    refine (I.hok b ob e).stay (fun c w' hc q => (hs.2 c ?_).trans q) (fun _ q => q) fun _ _ q => q
    rintro rfl
    rcases hc with rfl | hc
    · rw [hfree] at e; cases e
    · rw [hfree] at hc; cases hc
  rcases hx with hk | hk
  · refine wpAny_storeName_local hk hn (fun h' hn' hs => ?_) hcls
    obtain ⟨oL, _, _, hoL, _⟩ := id hn
    refine h _ ⟨I.ok, I.os, I.bare, ⟨fun b o e n hb hx => ?_, fun b o e n hb hx => ?_, I.base.free, fun b o e hx => ?_, I.base.tups, I.base.frzs, I.base.tbls⟩, ⟨_, hn', fun j y v' e1 e2 e3 => ?_⟩, fun y c e => ?_, I.free, I.freeC, fun p hp => ?_, tracked ⟨oL, hoL, I.free⟩ hs, by simpa using I.len⟩ ⟨_, hs, .inl rfl⟩
    · exact (hs.2 b (Nat.ne_of_lt (Nat.lt_of_lt_of_le (Heap.lt_size e) I.ok.above))).trans (I.base.keep b o e n hb hx)
    · obtain ⟨sl, e1⟩ := I.base.slot b o e n hb hx
      exact ⟨sl, (hs.2 b (Nat.ne_of_lt (Nat.lt_of_lt_of_le (Heap.lt_size e) I.ok.above))).trans e1⟩
    · obtain ⟨o', e1⟩ := I.base.there b o e hx
      exact ⟨o', (hs.2 b (Nat.ne_of_lt (Nat.lt_of_lt_of_le (Heap.lt_size e) I.ok.above))).trans e1⟩
    · by_cases hj : j = i
      · subst hj
        rw [hi] at e1; cases e1
        rw [List.getElem?_set_self hiσ] at e2
        cases e2
        exact ⟨u, r, .inl ⟨hk, by simp⟩⟩
      · rw [List.getElem?_set_ne (Ne.symm hj)] at e2
        obtain ⟨u', r', q⟩ := hl j y v' e1 e2 e3
        refine ⟨u', r', ?_⟩
        rcases q with ⟨k, e⟩ | ⟨k, c, e, z⟩
        · refine .inl ⟨k, ?_⟩
          have : y ≠ x := fun e => hj (nodup_ix hN e1 (e ▸ hi))
          simp [this, e]
        · exact .inr ⟨k, c, e, z.sameBut hs (cne y c e)⟩
    · obtain ⟨w', z⟩ := I.cell y c e
      exact ⟨w', z.sameBut hs (cne y c e)⟩
    · obtain ⟨e, n, ne, nf, d⟩ := I.pin p hp
      exact ⟨(hs.2 p.1 ne).trans e, n, ne, nf, d⟩
  · have hfn : X.fn x = true := by
      rcases hf with z | z
      · exact z
      · rw [z] at hk; cases hk
    obtain ⟨c, hc⟩ := I.ok.has x (.inl hk)
    obtain ⟨w', z⟩ := I.cell x c hc
    refine wpAny_storeName_cell I.ok.kind hk hc z (fun h' hc' hs => ?_)
    obtain ⟨oc, hoc, hocd⟩ := id z
    refine h { s with heap := h' } ⟨I.ok, I.os, I.bare, ⟨fun b o e n hb hx => ?_, fun b o e n hb hx => ?_, I.base.free, fun b o e hx => ?_, I.base.tups, I.base.frzs, I.base.tbls⟩, ⟨m, hn.sameBut hs (Ne.symm (cne x c hc)), fun j y v' e1 e2 e3 => ?_⟩, fun y c' e => ?_, I.free, I.freeC, fun p hp => ?_, tracked ⟨oc, hoc, I.freeC x c hc⟩ hs, by simpa using I.len⟩ ⟨c, hs, .inr hc⟩
    · exact (hs.2 b (Nat.ne_of_lt (Nat.lt_of_lt_of_le (Heap.lt_size e) (I.ok.cab x c hfn hc)))).trans (I.base.keep b o e n hb hx)
    · obtain ⟨sl, e1⟩ := I.base.slot b o e n hb hx
      exact ⟨sl, (hs.2 b (Nat.ne_of_lt (Nat.lt_of_lt_of_le (Heap.lt_size e) (I.ok.cab x c hfn hc)))).trans e1⟩
    · obtain ⟨o', e1⟩ := I.base.there b o e hx
      exact ⟨o', (hs.2 b (Nat.ne_of_lt (Nat.lt_of_lt_of_le (Heap.lt_size e) (I.ok.cab x c hfn hc)))).trans e1⟩
    · by_cases hj : j = i
      · subst hj
        rw [hi] at e1; cases e1
        rw [List.getElem?_set_self hiσ] at e2
        cases e2
        exact ⟨u, r, .inr ⟨.inl hk, c, hc, hc'⟩⟩
      · rw [List.getElem?_set_ne (Ne.symm hj)] at e2
        obtain ⟨u', r', q⟩ := hl j y v' e1 e2 e3
        refine ⟨u', r', ?_⟩
        rcases q with q | ⟨k, c', e, z'⟩
        · exact .inl q
        · refine .inr ⟨k, c', e, z'.sameBut hs ?_⟩
          rintro rfl
          exact hj (nodup_ix hN e1 (I.ok.inj _ _ _ e hc ▸ hi))
    · by_cases hcc : c' = c
      · subst hcc; exact ⟨_, hc'⟩
      · obtain ⟨w2, z2⟩ := I.cell y c' e
        exact ⟨w2, z2.sameBut hs hcc⟩
    · obtain ⟨e, n, ne, nf, d⟩ := I.pin p hp
      refine ⟨(hs.2 p.1 ?_).trans e, n, ne, nf, d⟩
      intro q
      rw [q, hoc] at e
      have q' : oc = p.2 := Option.some.inj e
      exact d w' (by rw [← q']; exact hocd)
theorem store_ok {M : Model} {A : Around} {E : Value → Shared → Prop} {i : Nat} {x : Str} {v : V} {u : Value} {Q : Unit → Shared → Prop} (I : Inv X pins σ H s) (hN : X.N.Nodup) (hi : X.N[i]? = some x) (hx : Loc X.env.scope x) (r : RelV v u)
    (h : ∀ s', Inv X pins (σ.set i (some v)) H s' → Q () s') (hf : X.fn x = true ∨ X.env.scope.names.lookup x = some .local := by first | exact .inl rfl | exact .inr rfl | assumption) : wpAny M A (storeName X.env x u) Q E s :=
  store_ok2 I hN hi hx r (fun s' I' _ => h s' I') hf

theorem Inv.call' {s' : Shared} {ch : List Addr} (I : Inv X pins σ H s) (ho : s'.os = s.os) (u : Un (frs X.stack) ch H H' s.heap s'.heap) (hok : HOk X.prog X.w H' s'.heap) (hg : AllBare s'.gens)
    (hch : ∀ b ∈ ch, (b ∈ X.ex ∨ X.s₀.heap.objs.size ≤ b) ∧ b ≠ X.env.locals ∧ (∀ x c, X.env.cells.lookup x = some c → c ≠ b) ∧ ∀ p ∈ X.pn ++ pins, p.1 ≠ b) : Inv X pins σ H' s' := by
  obtain ⟨h', g', d', t', o'⟩ := s'
  have e : o' = s.os := ho
  subst e
  exact I.call (g' := g') (t' := t') (d' := d') u hok hg hch
end



abbrev XK := Value → Option Addr → Hp → Prop
abbrev St := List (Option V)
abbrev VK := V → Hp → Prop

abbrev TE := St → Hp → VK → Prop
abbrev TT := St → Hp → (Bool → Hp → Prop) → Prop
abbrev TA := St → Hp → (List V → Hp → Prop) → Prop

structure Ends where
  nx : St → Hp → Prop
  rt : VK
  bk : St → Hp → Prop := fun _ _ => False
  ct : St → Hp → Prop := fun _ _ => False
abbrev TS := Ends → St → Hp → Prop

def EP (X : Cx) (pins : List (Addr × Obj)) (σ : St) (Q : VK) (u : Value) (s' : Shared) : Prop := ∃ v H', Inv X pins σ H' s' ∧ RelV v u ∧ Q v H'
def TP (X : Cx) (pins : List (Addr × Obj)) (σ : St) (Q : Bool → Hp → Prop) (b : Bool) (s' : Shared) : Prop := ∃ H', Inv X pins σ H' s' ∧ Q b H'
def AP (X : Cx) (pins : List (Addr × Obj)) (σ : St) (Q : List V → Hp → Prop) (us : List Value) (s' : Shared) : Prop := ∃ vs H', Inv X pins σ H' s' ∧ Vals vs us ∧ Q vs H'
def SP (X : Cx) (pins : List (Addr × Obj)) (D : Ends) (f : Flow) (s' : Shared) : Prop :=
  match f with
  | .next => ∃ σ' H', Inv X pins σ' H' s' ∧ D.nx σ' H'
  | .brk => ∃ σ' H', Inv X pins σ' H' s' ∧ D.bk σ' H'
  | .cont => ∃ σ' H', Inv X pins σ' H' s' ∧ D.ct σ' H'
  | .ret u => ∃ v σ' H', Inv X pins σ' H' s' ∧ RelV v u ∧ D.rt v H'

def PE (X : Cx) (e : Expr) (t : TE) : Prop :=
  ∀ (pins : List (Addr × Obj)) (s : Shared) (σ : St) (H : Hp) (Q : VK), Inv X pins σ H s → t σ H Q → wpAny (model X.prog X.w) X.A (eval e X.env) (EP X pins σ Q) X.xe s
def PT (X : Cx) (e : Expr) (t : TT) : Prop :=
  ∀ (pins : List (Addr × Obj)) (s : Shared) (σ : St) (H : Hp) (Q : Bool → Hp → Prop), Inv X pins σ H s → t σ H Q → wpAny (model X.prog X.w) X.A (isTrue e X.env (eval e X.env)) (TP X pins σ Q) X.xe s

def PW (X : Cx) (e : Expr) (t : TT) : Prop :=
  ∀ (whole : Sem Value) (pins : List (Addr × Obj)) (s : Shared) (σ : St) (H : Hp) (Q : Bool → Hp → Prop), Inv X pins σ H s → t σ H Q → wpAny (model X.prog X.w) X.A (isTrue e X.env whole) (TP X pins σ Q) X.xe s
theorem PW.pt {X : Cx} {e : Expr} {t : TT} (h : PW X e t) : PT X e t := h _

def PA (X : Cx) (es : List Expr) (t : TA) : Prop :=
  ∀ (pos : Pos) (pins : List (Addr × Obj)) (s : Shared) (σ : St) (H : Hp) (Q : List V → Hp → Prop), Inv X pins σ H s → t σ H Q → wpAny (model X.prog X.w) X.A (spliced (backTo pos (starEach es X.env))) (AP X pins σ Q) X.xe s
def PS (X : Cx) (st : Stmt) (t : TS) : Prop :=
  ∀ (pins : List (Addr × Obj)) (s : Shared) (σ : St) (H : Hp) (D : Ends), Inv X pins σ H s → t D σ H → wpAny (model X.prog X.w) X.A (exec st X.env) (SP X pins D) X.xe s
def PSs (X : Cx) (st : List Stmt) (t : TS) : Prop :=
  ∀ (pins : List (Addr × Obj)) (s : Shared) (σ : St) (H : Hp) (D : Ends), Inv X pins σ H s → t D σ H → wpAny (model X.prog X.w) X.A (execs st X.env) (SP X pins D) X.xe s

theorem thn {α : Type} {t : Sem α} {Q Q' : α → Shared → Prop} {M : Model} {A : Around} {E : Value → Shared → Prop} {s : Shared} (h : wpAny M A t Q E s) (hQ : ∀ a s, Q a s → Q' a s) : wpAny M A t Q' E s := wpAny_mono h hQ fun _ _ x => x
end L2

namespace L2
open PySem PySem.Spec PyProof.Rows
section
variable {X : Cx}


def tVar (i : Nat) : TE := fun σ H Q => ∃ v, σ[i]? = some (some v) ∧ Q v H
def tC (v : V) : TE := fun _ H Q => Q v H
theorem pe_var {i : Nat} {x : Str} {pos : Pos} (hN : X.N[i]? = some x) (hv : Vis X.env.scope x) (hd : (x == ("__debug__" : Str)) = false := by decide) (hcd : (x == ("__classdict__" : Str)) = false := by decide) : PE X (.Name x pos) (tVar i) := by
  intro pins s σ H Q I h
  obtain ⟨v, e, h⟩ := h
  obtain ⟨m, hn, hl⟩ := I.loc
  obtain ⟨u, r, l⟩ := hl i x v hN e hv
  have fin : EP X pins σ Q u s := ⟨v, H, I, r, h⟩
  rcases l with ⟨hk, hm⟩ | ⟨hk, c, hc, hcell⟩
  · exact wpAny_Name (wpAny_loadName_local I.ok.kind hk hn hm fin) hd
  · rcases hk with hk | hk
    · exact wpAny_Name (wpAny_loadName_cell I.ok.kind hk hc hcell fin) hd
    · exact wpAny_Name (wpAny_loadName_free I.ok.kind hk hc hcell fin hcd) hd
theorem pe_int {i j pos} : PE X (.Constant (.int i) j pos) (tC (.int i)) := fun _ _ _ H _ I h => wpAny_Constant_int ⟨.int i, H, I.tok _, ⟨_, rfl⟩, h⟩
theorem pe_bl {b j pos} : PE X (.Constant (.bool b) j pos) (tC (.bl b)) := fun _ _ _ H _ I h => Constant_bool ⟨.bl b, H, I, rfl, h⟩
theorem pe_non {j pos} : PE X (.Constant .none j pos) (tC .non) := fun _ _ _ H _ I h => Constant_none ⟨.non, H, I, rfl, h⟩
theorem pe_str {x j pos} : PE X (.Constant (.str x) j pos) (tC (.str x)) := fun _ _ _ H _ I h => Calls.Constant_str ⟨.str x, H, I.tok _, ⟨_, rfl⟩, h⟩


def Gl (X : Cx) (x : Str) : Prop := X.env.kindOf x = some .globalImplicit
theorem ld_glob {E : Value → Shared → Prop} {pins : List (Addr × Obj)} {s : Shared} {σ : St} {H : Hp} {x : Str} {u : Value} {pos : Pos} {Q : Value → Shared → Prop} (I : Inv X pins σ H s) (hg : Gl X x) (hm : X.mg x = some u) (h : Q u s)
    (hd : (x == ("__debug__" : Str)) = false := by decide) : wpAny (model X.prog X.w) X.A (eval (.Name x pos) X.env) Q E s :=
  Calls.Name_function_global I.ok.kind hg (Calls.loadGlobal_global (by rw [I.ok.glob]; exact I.mod.glob.keeps I.bk) hm h) hd
theorem ld_blt {E : Value → Shared → Prop} {pins : List (Addr × Obj)} {s : Shared} {σ : St} {H : Hp} {x : Str} {u : Value} {pos : Pos} {Q : Value → Shared → Prop} (I : Inv X pins σ H s) (hg : Gl X x) (hm : X.mg x = none) (hv : bootBuiltins x = some u) (h : Q u s)
    (hn : x ≠ "__name__" := by decide) (hd : (x == ("__debug__" : Str)) = false := by decide) : wpAny (model X.prog X.w) X.A (eval (.Name x pos) X.env) Q E s := by
  obtain ⟨mb, h1, h2⟩ := I.mod.blt
  exact Calls.Name_function_global I.ok.kind hg (Calls.loadGlobal_builtin (by rw [I.ok.glob]; exact I.mod.glob.keeps I.bk) hm (by rw [I.ok.blt]; exact h1.keeps I.bk) ((h2 x hn).trans hv) h) hd

theorem pe_glob {x : Str} {v : V} {u : Value} {pos : Pos} (hg : Gl X x) (hm : X.mg x = some u) (r : RelV v u) (hd : (x == ("__debug__" : Str)) = false := by decide) : PE X (.Name x pos) (tC v) :=
  fun _ _ _ H _ I h => ld_glob I hg hm ⟨v, H, I, r, h⟩ hd
theorem pe_bltn {x : Str} {v : V} {u : Value} {pos : Pos} (hg : Gl X x) (hm : X.mg x = none) (hv : bootBuiltins x = some u) (r : RelV v u) (hn : x ≠ "__name__" := by decide) (hd : (x == ("__debug__" : Str)) = false := by decide) : PE X (.Name x pos) (tC v) :=
  fun _ _ _ H _ I h => ld_blt I hg hm hv ⟨v, H, I, r, h⟩ hn hd



def t2I (ta tb : TE) (k : Int → Int → Hp → Prop) : St → Hp → Prop := fun σ H => ta σ H fun x H1 => tb σ H1 fun y H2 => ∃ i j, x = .int i ∧ y = .int j ∧ k i j H2
def tAdd (ta tb : TE) : TE := fun σ H Q => t2I ta tb (fun i j H2 => Q (.int (i + j)) H2) σ H
def tSub (ta tb : TE) : TE := fun σ H Q => t2I ta tb (fun i j H2 => Q (.int (i - j)) H2) σ H

def tMul (ta tb : TE) : TE := fun σ H Q => t2I ta tb (fun i j H2 => (-(2 ^ 64) < i ∧ i < 2 ^ 64) ∧ Q (.int (i * j)) H2) σ H
variable {a b : Expr} {ta tb : TE} {pos : Pos}
def PC (X : Cx) (op : CmpOp) (a b : Expr) (t : TE) : Prop :=
  ∀ (pins : List (Addr × Obj)) (s : Shared) (σ : St) (H : Hp) (Q : VK), Inv X pins σ H s → t σ H Q →
    wpAny (model X.prog X.w) X.A (eval a X.env) (fun v s₁ => wpAny (model X.prog X.w) X.A (eval b X.env) (fun u s₂ => wpAny (model X.prog X.w) X.A (compareOp op v u) (EP X pins σ Q) X.xe s₂) X.xe s₁) X.xe s
theorem nobehind (b : Expr) {op : CmpOp} (h : op ≠ .In) (h2 : op ≠ .NotIn) : behindInMarks op b = false := by
  have e1 : (op == CmpOp.In) = false := by cases op <;> first | rfl | exact absurd rfl h
  have e2 : (op == CmpOp.NotIn) = false := by cases op <;> first | rfl | exact absurd rfl h2
  cases b <;> simp [behindInMarks, e1, e2]
def tCmp (p : Int → Int → Bool) (ta tb : TE) : TE := fun σ H Q => t2I ta tb (fun i j H2 => Q (.bl (p i j)) H2) σ H
abbrev tLt : TE → TE → TE := tCmp fun i j => decide (i < j)
abbrev tLe : TE → TE → TE := tCmp fun i j => decide (i ≤ j)
abbrev tGt : TE → TE → TE := tCmp fun i j => decide (j < i)
abbrev tGe : TE → TE → TE := tCmp fun i j => decide (j ≤ i)
abbrev tEqI : TE → TE → TE := tCmp fun i j => decide (i = j)
abbrev tNeI : TE → TE → TE := tCmp fun i j => !decide (i = j)

def tIsN (ta : TE) : TE := fun σ H Q => ta σ H fun x H1 => Q (.bl (decide (x = .non))) H1
def tNotN (ta : TE) : TE := fun σ H Q => ta σ H fun x H1 => Q (.bl (!decide (x = .non))) H1
def tB (t : TE) : TT := fun σ H Q => t σ H fun x H1 => ∃ c, x = .bl c ∧ Q c H1
theorem pt_cmp {op : CmpOp} {t : TE} (h : PC X op a b t) (h1 : behindInMarks op b = false := by first | exact nobehind _ (by decide) (by decide) | rfl) : PT X (.Compare a [op] [b] pos) (tB t) := by
  intro pins s σ H Q I hw
  refine wpAny_isTrue_Compare1 (thn (h pins s σ H _ I hw) fun v s1 h1 => thn h1 fun u s2 h2 => thn h2 fun c s3 ⟨x, H1, I1, r1, q1⟩ => ?_) h1
  obtain ⟨d, rfl, q⟩ := q1
  cases r1
  exact wpAny_truthy_bool ⟨H1, I1, q⟩

theorem pt_val {e : Expr} {t : TE} (h : PE X e t) (he : ∀ whole, isTrue e X.env whole = (do let v ← whole; standAt e.pos; holding [v] (truthy v)) := by intro _; rfl) : PT X e (tB t) := by
  intro pins s σ H Q I hw
  refine isTrue_plain (thn (h pins s σ H _ I hw) fun v s1 ⟨x, H1, I1, r1, q1⟩ => ?_) (he _)
  obtain ⟨d, rfl, q⟩ := q1
  cases r1
  exact wpAny_truthy_bool ⟨H1, I1, q⟩


variable {tA tB' : TT} {rest : List Expr}
def tAnd (t u : TT) : TT := fun σ H Q => t σ H fun c H1 => if c = true then u σ H1 Q else Q false H1
def tOr (t u : TT) : TT := fun σ H Q => t σ H fun c H1 => if c = true then Q true H1 else u σ H1 Q
def tNot (t : TT) : TT := fun σ H Q => t σ H fun c H1 => Q (!c) H1
theorem pw_and1 (ha : PT X a tA) : PW X (.BoolOp .And [a] pos) tA := by
  intro wh pins s σ H Q I h
  refine isTrue_and (thn (ha pins s σ H Q I h) fun c s1 e => ?_)
  cases c with
  | true => exact isTrue_and_nil e
  | false => exact e
theorem pw_or1 (ha : PT X a tA) : PW X (.BoolOp .Or [a] pos) tA := by
  intro wh pins s σ H Q I h
  refine isTrue_or (thn (ha pins s σ H Q I h) fun c s1 e => ?_)
  cases c with
  | false => exact isTrue_or_nil e
  | true => exact e
theorem pw_and (ha : PT X a tA) (hb : PW X (.BoolOp .And (b :: rest) pos) tB') : PW X (.BoolOp .And (a :: b :: rest) pos) (tAnd tA tB') := by
  intro wh pins s σ H Q I h
  refine isTrue_and (thn (ha pins s σ H _ I h) fun c s1 ⟨H1, I1, q1⟩ => ?_)
  cases c with
  | true => exact hb wh pins s1 σ H1 Q I1 q1
  | false => exact ⟨H1, I1, q1⟩
theorem pw_or (ha : PT X a tA) (hb : PW X (.BoolOp .Or (b :: rest) pos) tB') : PW X (.BoolOp .Or (a :: b :: rest) pos) (tOr tA tB') := by
  intro wh pins s σ H Q I h
  refine isTrue_or (thn (ha pins s σ H _ I h) fun c s1 ⟨H1, I1, q1⟩ => ?_)
  cases c with
  | true => exact ⟨H1, I1, q1⟩
  | false => exact hb wh pins s1 σ H1 Q I1 q1
theorem pt_not (ha : PT X a tA) : PT X (.UnaryOp .Not a pos) (tNot tA) := by
  intro pins s σ H Q I h
  exact isTrue_not (ha pins s σ H (fun c H1 => Q (!c) H1) I h)

def tAndV (ta tb : TE) : TE := fun σ H Q => ta σ H fun x H1 => ∃ c, x = .bl c ∧ if c = true then tb σ H1 Q else Q (.bl false) H1
def tOrV (ta tb : TE) : TE := fun σ H Q => ta σ H fun x H1 => ∃ c, x = .bl c ∧ if c = true then Q (.bl true) H1 else tb σ H1 Q
def tNotV (ta : TE) : TE := fun σ H Q => ta σ H fun x H1 => ∃ c, x = .bl c ∧ Q (.bl (!c)) H1
theorem pe_one {op} {t : TE} (h : PE X a t) : PE X (.BoolOp op [a] pos) t := fun pins s σ H Q I hw => BoolOp_one (h pins s σ H Q I hw)
theorem pe_and (ha : PE X a ta) (hb : PE X (.BoolOp .And (b :: rest) pos) tb) : PE X (.BoolOp .And (a :: b :: rest) pos) (tAndV ta tb) := by
  intro pins s σ H Q I h
  refine BoolOp_and (thn (ha pins s σ H _ I h) fun v s1 ⟨x, H1, I1, r1, q1⟩ => ?_)
  obtain ⟨c, rfl, q1⟩ := q1
  cases r1
  refine wpAny_truthy_bool ?_
  cases c with
  | true => exact hb pins s1 σ H1 Q I1 q1
  | false => exact ⟨.bl false, H1, I1, rfl, q1⟩
theorem pe_or (ha : PE X a ta) (hb : PE X (.BoolOp .Or (b :: rest) pos) tb) : PE X (.BoolOp .Or (a :: b :: rest) pos) (tOrV ta tb) := by
  intro pins s σ H Q I h
  refine BoolOp_or (thn (ha pins s σ H _ I h) fun v s1 ⟨x, H1, I1, r1, q1⟩ => ?_)
  obtain ⟨c, rfl, q1⟩ := q1
  cases r1
  refine wpAny_truthy_bool ?_
  cases c with
  | false => exact hb pins s1 σ H1 Q I1 q1
  | true => exact ⟨.bl true, H1, I1, rfl, q1⟩
theorem pe_not (ha : PE X a ta) : PE X (.UnaryOp .Not a pos) (tNotV ta) := by
  intro pins s σ H Q I h
  refine UnaryOp_ (thn (ha pins s σ H _ I h) fun v s1 ⟨x, H1, I1, r1, q1⟩ => ?_)
  obtain ⟨c, rfl, q1⟩ := q1
  cases r1
  exact not_of (wpAny_truthy_bool ⟨.bl (!c), H1, I1, rfl, q1⟩)

def tIf (t : TT) (ta tb : TE) : TE := fun σ H Q => t σ H fun c H1 => if c = true then ta σ H1 Q else tb σ H1 Q
theorem pe_ifExp {c : Expr} (hc : PT X c tA) (ha : PE X a ta) (hb : PE X b tb) : PE X (.IfExp c a b pos) (tIf tA ta tb) := by
  intro pins s σ H Q I h
  refine wpAny_IfExp (thn (hc pins s σ H _ I h) fun d s1 ⟨H1, I1, q1⟩ => ?_)
  cases d with
  | true => exact ha pins s1 σ H1 Q I1 q1
  | false => exact hb pins s1 σ H1 Q I1 q1
end
end L2

namespace L2
open PySem PySem.Spec PyProof.Rows


def SqL (K : PySem.W.Frag) (H : Hp) (a : Addr) (xs : List V) : Prop :=
  Rd H a (.lst xs) ∨
    ∃ (o : Obj) (its : Array Value) (n : Nat), K.lookup a = some o ∧ o.cls = .type "list" ∧ o.dict = none ∧ o.data = .seq its n ∧ its.size ≤ sizeLine ∧ Vals xs its.toList
def SqT (K : PySem.W.Frag) (H : Hp) (a : Addr) (xs : List V) : Prop :=
  Rd H a (.tup xs) ∨
    ∃ (o : Obj) (its : Array Value) (n : Nat), K.lookup a = some o ∧ o.cls = .type "tuple" ∧ o.data = .seq its n ∧ its.size ≤ sizeLine ∧ Vals xs its.toList
def absV : Value → Option V
  | .none => some .non
  | .bool b => some (.bl b)
  | .int i _ => some (.int i)
  | .str x _ => some (.str x)
  | .bytes b _ => some (.byt b)
  | .float b _ => some (.flt b)
  | .ref a => some (.ref a)
  | .type n => some (.ty n)
  | _ => none
theorem RelV.abs {x : V} {u : Value} (r : RelV x u) : absV u = some x := by
  cases x with
  | non => cases r; rfl
  | bl _ => cases r; rfl
  | int _ => obtain ⟨t, rfl⟩ := r; rfl
  | str _ => obtain ⟨t, rfl⟩ := r; rfl
  | byt _ => obtain ⟨t, rfl⟩ := r; rfl
  | flt _ => obtain ⟨t, rfl⟩ := r; rfl
  | ref _ => cases r; rfl
  | ty _ => cases r; rfl
theorem RelV.inj {x y : V} {u : Value} (r : RelV x u) (q : RelV y u) : x = y := Option.some.inj (r.abs.symm.trans q.abs)
theorem Vals.inj : ∀ {xs ys : List V} {us : List Value}, Vals xs us → Vals ys us → xs = ys
  | _, _, _, .nil, .nil => rfl
  | _, _, _, .cons r t, .cons r' t' => by rw [r.inj r', Vals.inj t t']
section
variable {X : Cx} {pins : List (Addr × Obj)} {σ : St} {H : Hp} {s : Shared} {a : Addr} {xs ys : List V}
theorem SqL.of {K : PySem.W.Frag} (h : H a = some (.lst xs)) : SqL K H a xs := .inl (.inl h)
theorem SqT.of {K : PySem.W.Frag} (h : H a = some (.tup xs)) : SqT K H a xs := .inl (.inl h)
theorem Inv.list (I : Inv X pins σ H s) (h : SqL X.K H a xs) : ∃ its : List Value, Vals xs its ∧ PlainL s.heap a its.toArray ∧ xs.length ≤ sizeLine := by
  rcases h with h | ⟨o, its, n, hk, hc, hd, hs, hz, r⟩
  · obtain ⟨z, its, n, r, e⟩ := h.ok I.hok
    exact ⟨its, r, ⟨_, n, e, rfl, rfl, rfl⟩, z⟩
  · refine ⟨its.toList, r, ⟨o, n, I.kIn a o hk, hc, hd, by simpa using hs⟩, ?_⟩
    have e := r.length
    simp only [Array.length_toList] at e
    omega
theorem Inv.tuple (I : Inv X pins σ H s) (h : SqT X.K H a xs) : ∃ its : List Value, Vals xs its ∧ IsTup s.heap a its.toArray ∧ xs.length ≤ sizeLine := by
  rcases h with h | ⟨o, its, n, hk, hc, hs, hz, r⟩
  · obtain ⟨z, its, r, p⟩ := h.ok I.hok
    exact ⟨its, r, p, z⟩
  · refine ⟨its.toList, r, ⟨o, I.kIn a o hk, hc, n, by simpa using hs⟩, ?_⟩
    have e := r.length
    simp only [Array.length_toList] at e
    omega
theorem Inv.list_inj (I : Inv X pins σ H s) (h : SqL X.K H a xs) (h' : SqL X.K H a ys) : xs = ys := by
  obtain ⟨its, r, ⟨o, n, e, _, _, d⟩, _⟩ := I.list h
  obtain ⟨its', r', ⟨o', n', e', _, _, d'⟩, _⟩ := I.list h'
  rw [e] at e'; cases e'
  rw [d] at d'
  injection d' with d1 _
  have : its = its' := by simpa using congrArg Array.toList d1
  subst this
  exact r.inj r'
theorem Inv.tuple_inj (I : Inv X pins σ H s) (h : SqT X.K H a xs) (h' : SqT X.K H a ys) : xs = ys := by
  obtain ⟨its, r, ⟨o, e, _, n, d⟩, _⟩ := I.tuple h
  obtain ⟨its', r', ⟨o', e', _, n', d'⟩, _⟩ := I.tuple h'
  rw [e] at e'; cases e'
  rw [d] at d'
  injection d' with d1 _
  have : its = its' := by simpa using congrArg Array.toList d1
  subst this
  exact r.inj r'
end


abbrev Cx.wish (X : Cx) (E : Value → Shared → Prop) : Cx := { X with xe := E }

abbrev Cx.nox (X : Cx) : Cx := X.wish fun _ _ => False
theorem Cx.Ok.wish {X : Cx} (ok : X.Ok) (E : Value → Shared → Prop) : (X.wish E).Ok :=
  ⟨ok.mod, ok.kind, ok.glob, ok.blt, ok.above, ok.inj, ok.has, ok.cab, ok.hd, ok.frames, ok.stk, ok.exf, ok.bs, ok.bsz, ok.noex, ok.exfs, ok.funs, ok.frf⟩
theorem Cx.Ok.unwish {X : Cx} {E : Value → Shared → Prop} (ok : (X.wish E).Ok) : X.Ok :=
  ⟨ok.mod, ok.kind, ok.glob, ok.blt, ok.above, ok.inj, ok.has, ok.cab, ok.hd, ok.frames, ok.stk, ok.exf, ok.bs, ok.bsz, ok.noex, ok.exfs, ok.funs, ok.frf⟩
section
variable {X : Cx} {pins : List (Addr × Obj)} {σ : St} {H : Hp} {s : Shared} {E : Value → Shared → Prop}
theorem Inv.wish (I : Inv X pins σ H s) (E : Value → Shared → Prop) : Inv (X.wish E) pins σ H s := ⟨I.ok.wish E, I.os, I.bare, I.base, I.loc, I.cell, I.free, I.freeC, I.pin, I.hok, I.len⟩
theorem Inv.unwish (I : Inv (X.wish E) pins σ H s) : Inv X pins σ H s := ⟨I.ok.unwish, I.os, I.bare, I.base, I.loc, I.cell, I.free, I.freeC, I.pin, I.hok, I.len⟩
theorem SP.unwish {D : Ends} {f : Flow} {s' : Shared} (h : SP (X.wish E) pins D f s') : SP X pins D f s' := by
  cases f with
  | next => obtain ⟨σ', H', I, q⟩ := h; exact ⟨σ', H', I.unwish, q⟩
  | brk => obtain ⟨σ', H', I, q⟩ := h; exact ⟨σ', H', I.unwish, q⟩
  | cont => obtain ⟨σ', H', I, q⟩ := h; exact ⟨σ', H', I.unwish, q⟩
  | ret u => obtain ⟨v, σ', H', I, r, q⟩ := h; exact ⟨v, σ', H', I.unwish, r, q⟩
theorem PE.nox {e : Expr} {t : TE} (h : PE X.nox e t) : PE X e t := fun pins s σ H Q I hw =>
  wpAny_mono (h pins s σ H Q (I.wish _) hw) (fun _ _ ⟨v, H', I', r, q⟩ => ⟨v, H', I'.unwish, r, q⟩) fun _ _ z => False.elim z
theorem PT.nox {e : Expr} {t : TT} (h : PT X.nox e t) : PT X e t := fun pins s σ H Q I hw =>
  wpAny_mono (h pins s σ H Q (I.wish _) hw) (fun _ _ ⟨H', I', q⟩ => ⟨H', I'.unwish, q⟩) fun _ _ z => False.elim z
theorem PSs.nox {st : List Stmt} {t : TS} (h : PSs X.nox st t) : PSs X st t := fun pins s σ H D I hw =>
  wpAny_mono (h pins s σ H D (I.wish _) hw) (fun _ _ q => q.unwish) fun _ _ z => False.elim z
end


section
variable {X : Cx} {st : Stmt} {rest : List Stmt} {t u : TS} {e : Expr} {te : TE} {pos : Pos}
def tNext : TS := fun D σ H => D.nx σ H
def tSeq (t u : TS) : TS := fun D σ H => t { D with nx := u D } σ H
theorem pss_nil : PSs X [] tNext := fun _ _ σ H _ I h => wpAny_execs_nil ⟨σ, H, I, h⟩
theorem pss_cons (h1 : PS X st t) (h2 : PSs X rest u) : PSs X (st :: rest) (tSeq t u) := by
  intro pins s σ H D I h
  refine wpAny_execs_cons (thn (h1 pins s σ H { D with nx := u D } I h) fun f s1 q => ?_)
  cases f with
  | next =>
    obtain ⟨σ', H', I', q⟩ := q
    exact h2 pins s1 σ' H' D I' q
  | ret v => exact q
  | brk => exact q
  | cont => exact q
theorem pss_one (h1 : PS X st t) : PSs X [st] t := by
  intro pins s σ H D I h
  refine wpAny_execs_cons (thn (h1 pins s σ H D I h) fun f s1 q => ?_)
  cases f with
  | next => exact wpAny_execs_nil q
  | ret v => exact q
  | brk => exact q
  | cont => exact q
def tBreak : TS := fun D σ H => D.bk σ H
def tCont : TS := fun D σ H => D.ct σ H
theorem ps_continue : PS X (.Continue pos) tCont := fun _ _ σ H _ I h => wpAny_Continue ⟨σ, H, I, h⟩

theorem Inv.quiet {pins : List (Addr × Obj)} {σ : St} {H : Hp} {s : Shared} (I : Inv X pins σ H s) : interactive X.env = false := by simp [interactive, I.ok.kind]

def tDrop (te : TE) : TS := fun D σ H => te σ H fun _ H1 => D.nx σ H1
theorem ps_expr (he : PE X e te) (hs : swapsWith e none pos.line X.env = pure false := by rfl) : PS X (.Expr e pos) (tDrop te) := by
  intro pins s σ H D I h
  exact wpAny_Expr_any (thn (he pins s σ H _ I h) fun v s1 ⟨x, H1, I1, r1, q1⟩ => ⟨σ, H1, I1, q1⟩) I.quiet hs
def tRet (te : TE) : TS := fun D σ H => te σ H D.rt
theorem ps_ret (he : PE X e te) : PS X (.Return (some e) pos) (tRet te) := by
  intro pins s σ H D I h
  exact wpAny_Return_some (thn (he pins s σ H _ I h) fun v s1 ⟨x, H1, I1, r1, q1⟩ => ⟨x, σ, H1, I1, r1, q1⟩)
def tRetN : TS := fun D _ H => D.rt .non H
def tIfS (c : TT) (t u : TS) : TS := fun D σ H => c σ H fun b H1 => if b = true then t D σ H1 else u D σ H1
theorem ps_if {c : Expr} {a b : List Stmt} {tc : TT} (hc : PT X c tc) (ha : PSs X a t) (hb : PSs X b u) : PS X (.If c a b pos) (tIfS tc t u) := by
  intro pins s σ H D I h
  refine wpAny_If (thn (hc pins s σ H _ I h) fun d s1 ⟨H1, I1, q1⟩ => ?_)
  cases d with
  | true => exact ha pins s1 σ H1 D I1 q1
  | false => exact hb pins s1 σ H1 D I1 q1

def tNever : TS := fun _ _ _ => False
end


abbrev TG := V → St → Hp → (St → Hp → Prop) → Prop
abbrev TGs := List V → St → Hp → (St → Hp → Prop) → Prop
def PG (X : Cx) (target : Expr) (t : TG) : Prop :=
  ∀ (pins : List (Addr × Obj)) (s : Shared) (σ : St) (H : Hp) (v : V) (u : Value) (Q : St → Hp → Prop), Inv X pins σ H s → RelV v u → t v σ H Q →
    wpAny (model X.prog X.w) X.A (assign target X.env u) (fun _ s' => ∃ σ' H', Inv X pins σ' H' s' ∧ Q σ' H') X.xe s

def PGs (X : Cx) (ts : List Expr) (t : TGs) : Prop :=
  ∀ (pins : List (Addr × Obj)) (s : Shared) (σ : St) (H : Hp) (vs : List V) (us : List Value) (Q : St → Hp → Prop), Inv X pins σ H s → Vals vs us → t vs σ H Q →
    wpAny (model X.prog X.w) X.A (assignInOrder ((assignEach ts X.env).map (·.2)) us) (fun _ s' => ∃ σ' H', Inv X pins σ' H' s' ∧ Q σ' H') X.xe s

abbrev TSet := V → V → V → Hp → (Hp → Prop) → Prop
def PSet (X : Cx) (t : TSet) : Prop :=
  ∀ (pins : List (Addr × Obj)) (s : Shared) (σ : St) (H : Hp) (o i v : V) (ov iv u : Value) (Q : Hp → Prop), Inv X pins σ H s → RelV o ov → RelV i iv → RelV v u → t o i v H Q →
    wpAny (model X.prog X.w) X.A (setItem ov iv u) (fun _ s' => ∃ H', Inv X pins σ H' s' ∧ Q H') X.xe s

abbrev TIp := V → V → Hp → VK → Prop
def PIp (X : Cx) (op : Operator) (t : TIp) : Prop :=
  ∀ (pins : List (Addr × Obj)) (s : Shared) (σ : St) (H : Hp) (x y : V) (v u : Value) (Q : VK), Inv X pins σ H s → RelV x v → RelV y u → t x y H Q →
    wpAny (model X.prog X.w) X.A (inplaceOp op v u) (EP X pins σ Q) X.xe s
section
variable {X : Cx} {pos : Pos}
def gName (i : Nat) : TG := fun v σ H Q => Q (σ.set i (some v)) H
theorem pg_name {i : Nat} {x : Str} (hN : X.N.Nodup) (hi : X.N[i]? = some x) (hx : Loc X.env.scope x) (hf : X.fn x = true ∨ X.env.scope.names.lookup x = some .local := by first | exact .inl rfl | exact .inr rfl | assumption) : PG X (.Name x pos) (gName i) := by
  intro pins s σ H v u Q I r h
  exact wpAny_assign_Name (store_ok I hN hi hx r (fun s' I' => ⟨_, H, I', h⟩) hf)
def gNil : TGs := fun vs σ H Q => vs = [] ∧ Q σ H
def gCons (t : TG) (u : TGs) : TGs := fun vs σ H Q => ∃ v r, vs = v :: r ∧ t v σ H fun σ' H' => u r σ' H' Q
theorem pgs_nil : PGs X [] gNil := by
  intro pins s σ H vs us Q I r h
  obtain ⟨e, h⟩ := h
  subst e
  cases r
  exact assignInOrder_nil ⟨σ, H, I, h⟩
theorem pgs_cons {e : Expr} {es : List Expr} {t : TG} {u : TGs} (h1 : PG X e t) (h2 : PGs X es u)
    (hs : (assignEach (e :: es) X.env).map (·.2) = assign e X.env :: (assignEach es X.env).map (·.2) := by rfl) : PGs X (e :: es) (gCons t u) := by
  intro pins s σ H vs us Q I r h
  obtain ⟨v, vr, e1, h⟩ := h
  subst e1
  cases r with
  | cons r rr =>
    rw [hs]
    refine assignInOrder_cons (thn (h1 pins s σ H _ _ _ I r h) fun _ s1 ⟨σ1, H1, I1, q1⟩ => ?_)
    exact h2 pins s1 σ1 H1 _ _ Q I1 rr q1

def gTup (K : PySem.W.Frag) (n : Nat) (t : TGs) : TG := fun v σ H Q => ∃ a xs, v = .ref a ∧ SqT K H a xs ∧ xs.length = n ∧ t xs σ H Q
theorem pg_tup {es : List Expr} {k : Nat} {t : TGs} {n : Nat} (hc : X.calm = true) (h : PGs X es t)
    (hn : (assignEach es X.env).length = n := by rfl) (hst : (assignEach es X.env).findIdx? (·.1) = none := by rfl) : PG X (.Tuple es k pos) (gTup X.K n t) := by
  intro pins s σ H v u Q I r hw
  obtain ⟨a, xs, e1, hq, hl, hw⟩ := hw
  subst e1
  cases r
  obtain ⟨its, rv, ht, hz⟩ := I.tuple hq
  refine assign_Tuple_tuple (I.ok.hd hc) ht (by simp [hn, ← hl, rv.length]) hst fun h' hx => ?_
  have I1 : Inv X pins σ H { s with heap := h' } := I.kept (t' := s.toks) fun b o e => hx b o (Nat.ne_of_lt (Heap.lt_size e)) e
  exact h pins _ σ H xs _ Q I1 (by simpa using rv) hw

def gSub (to ti : TE) (t : TSet) : TG := fun v σ H Q => to σ H fun o H1 => ti σ H1 fun i H2 => t o i v H2 fun H3 => Q σ H3
def tAsg (te : TE) (g : TG) : TS := fun D σ H => te σ H fun x H1 => g x σ H1 D.nx
theorem ps_set {i : Nat} {x : Str} {e : Expr} {te : TE} {pos' : Pos} (hN : X.N.Nodup) (hi : X.N[i]? = some x) (hx : Loc X.env.scope x) (he : PE X e te) (hs : swapsWith e (some (.Name x pos')) pos.line X.env = pure false := by rfl) (hf : X.fn x = true ∨ X.env.scope.names.lookup x = some .local := by first | exact .inl rfl | exact .inr rfl | assumption) :
    PS X (.Assign [.Name x pos'] e pos) (tAsg te (gName i)) := by
  intro pins s σ H D I h
  refine wpAny_Assign_Name (thn (he pins s σ H _ I h) fun v s1 ⟨y, H1, I1, r1, q1⟩ => ?_) hs
  exact store_ok I1 hN hi hx r1 (fun s2 I2 => ⟨_, H1, I2, q1⟩) hf

def tPar (i j : Nat) (ta : TA) : TS := fun D σ H => ta σ H fun vs H1 => ∃ v w, vs = [v, w] ∧ D.nx ((σ.set i (some v)).set j (some w)) H1
def tAug (i : Nat) (te : TE) (ti : TIp) : TS := fun D σ H => ∃ x, σ[i]? = some (some x) ∧ te σ H fun y H1 => ti x y H1 fun z H2 => D.nx (σ.set i (some z)) H2
theorem ps_aug {i : Nat} {x : Str} {e : Expr} {te : TE} {op : Operator} {ti : TIp} {pos' : Pos} (hN : X.N.Nodup) (hi : X.N[i]? = some x) (hx : Loc X.env.scope x) (he : PE X e te) (ho : PIp X op ti) (hf : X.fn x = true ∨ X.env.scope.names.lookup x = some .local := by first | exact .inl rfl | exact .inr rfl | assumption) :
    PS X (.AugAssign (.Name x pos') op e pos) (tAug i te ti) := by
  intro pins s σ H D I h
  obtain ⟨v, e1, h⟩ := h
  obtain ⟨m, hn, hl⟩ := I.loc
  have vis : Vis X.env.scope x := by rcases hx with k | k; exact .inl k; exact .inr (.inl k)
  obtain ⟨u, r, l⟩ := hl i x v hi e1 vis
  refine wpAny_AugAssign_Name ?_
  have go : wpAny (model X.prog X.w) X.A (eval e X.env) (fun w s₂ => wpAny (model X.prog X.w) X.A (inplaceOp op u w) (fun r s₃ => wpAny (model X.prog X.w) X.A (storeName X.env x r) (fun _ => SP X pins D .next) X.xe s₃) X.xe s₂) X.xe s := by
    refine thn (he pins s σ H _ I h) fun w s1 ⟨y, H1, I1, r1, q1⟩ => ?_
    refine thn (ho pins s1 σ H1 v y u w _ I1 r r1 q1) fun z s2 ⟨zv, H2, I2, r2, q2⟩ => ?_
    exact store_ok I2 hN hi hx r2 (fun s3 I3 => ⟨_, H2, I3, q2⟩) hf
  rcases l with ⟨hk, hm⟩ | ⟨hk, c, hc, hcell⟩
  · exact wpAny_loadName_local I.ok.kind hk hn hm go
  · rcases hk with hk | hk
    · exact wpAny_loadName_cell I.ok.kind hk hc hcell go
    · rcases hx with k | k
      · have : X.env.scope.names.lookup x = some .free := hk
        rw [k] at this; cases this
      · have : X.env.scope.names.lookup x = some .free := hk
        rw [k] at this; cases this

def tAugS (to ti te : TE) (tget : V → V → Hp → VK → Prop) (tip : TIp) (tset : TSet) : TS := fun D σ H => to σ H fun o H1 => ti σ H1 fun i H2 => tget o i H2 fun x H3 => te σ H3 fun y H4 => tip x y H4 fun z H5 => tset o i z H5 fun H6 => D.nx σ H6

def PGet (X : Cx) (t : V → V → Hp → VK → Prop) : Prop :=
  ∀ (pins : List (Addr × Obj)) (s : Shared) (σ : St) (H : Hp) (o i : V) (ov iv : Value) (Q : VK), Inv X pins σ H s → RelV o ov → RelV i iv → t o i H Q →
    wpAny (model X.prog X.w) X.A (getItem ov iv) (EP X pins σ Q) X.xe s
def ipI (f : Int → Int → Int) : TIp := fun x y H Q => ∃ i j, x = .int i ∧ y = .int j ∧ Q (.int (f i j)) H
theorem ip_add : PIp X .Add (ipI fun i j => i + j) := by
  intro pins s σ H x y v u Q I r1 r2 h
  obtain ⟨i, j, e1, e2, q⟩ := h
  subst e1; subst e2
  obtain ⟨t, rfl⟩ := r1
  obtain ⟨t', rfl⟩ := r2
  exact iadd_int ⟨.int _, H, I.tok _, ⟨_, rfl⟩, q⟩
end


section
variable {X : Cx} {pos : Pos}

def tWhile (c : TT) (tb : TS) : TS := fun D σ H => ∃ W : Nat → St → Hp → Prop, (∃ m, W m σ H) ∧ ∀ m σ H, W m σ H →
  c σ H fun b H1 => if b = true then ∃ N : St → Hp → Prop, (∀ σ' H', N σ' H' → ∃ m', m' < m ∧ W m' σ' H') ∧ tb { D with nx := N, ct := N, bk := D.nx } σ H1 else D.nx σ H1
theorem ps_while {c : Expr} {body : List Stmt} {tc : TT} {tb : TS} (hp : PassesOwn (model X.prog X.w) X.A X.env X.xe) (hc : PT X c tc) (hb : PSs X body tb) : PS X (.While c body [] pos) (tWhile tc tb) := by
  intro pins s σ H D I h
  obtain ⟨W, ⟨m0, w0⟩, turn⟩ := h
  refine wpAny_While (codeAny_whileLoop (fun n s' => ∃ σ' H', Inv X pins σ' H' s' ∧ W n σ' H') ?_ m0 ⟨σ, H, I, w0⟩)
  rintro n s1 ⟨σ1, H1, I1, w1⟩
  refine wpAny_passesOwn hp (thn (hc pins s1 σ1 H1 _ I1 (turn n σ1 H1 w1)) fun b s2 ⟨H2, I2, q2⟩ => ?_)
  cases b with
  | true =>
    obtain ⟨N, hN, q2⟩ := q2
    rw [if_pos rfl]
    refine wpAny_passesOwn hp (thn (hb pins s2 σ1 H2 _ I2 q2) fun f s3 q3 => ?_)
    cases f with
    | next =>
      obtain ⟨σ3, H3, I3, n3⟩ := q3
      obtain ⟨m', hm, w3⟩ := hN σ3 H3 n3
      exact ⟨m', hm, σ3, H3, I3, w3⟩
    | cont =>
      obtain ⟨σ3, H3, I3, n3⟩ := q3
      obtain ⟨m', hm, w3⟩ := hN σ3 H3 n3
      exact ⟨m', hm, σ3, H3, I3, w3⟩
    | brk => exact q3
    | ret v => exact q3
  | false =>
    rw [if_neg Bool.false_ne_true]
    exact wpAny_execs_nil ⟨σ1, H2, I2, q2⟩
end



structure It where
  go : Nat → Hp → Prop
  yld : Nat → Hp → V → Hp → Prop
  stop : Nat → Hp → Prop

def FpOk (X : Cx) (pins : List (Addr × Obj)) (H : Hp) (b : Addr) : Prop :=
  H b = none ∧ b ≠ X.env.locals ∧ b ∉ X.fs ∧ (b ∈ X.ex ∨ X.s₀.heap.objs.size ≤ b) ∧ (∀ x c, X.env.cells.lookup x = some c → c ≠ b) ∧ ∀ p ∈ X.pn ++ pins, p.1 ≠ b
theorem Inv.fpOk {X : Cx} {pins : List (Addr × Obj)} {σ : St} {H H' : Hp} {s : Shared} {b : Addr} (I : Inv X pins σ H s) (hb : s.heap.objs.size ≤ b) (hn : H' b = none) : FpOk X pins H' b := by
  refine ⟨hn, Nat.ne_of_gt (Nat.lt_of_lt_of_le I.lt hb), I.nofs hb, .inr (Nat.le_trans I.sz hb), fun x c e z => ?_, fun p hp z => ?_⟩
  · obtain ⟨v, q⟩ := I.cell x c e
    exact absurd (Nat.lt_of_lt_of_le q.lt (by rw [z]; exact hb)) (Nat.lt_irrefl _)
  · exact absurd (Nat.lt_of_lt_of_le (Heap.lt_size (I.pin p hp).1) (by rw [z]; exact hb)) (Nat.lt_irrefl _)
structure Turn (P : Program) (w : World) (K : PySem.W.Frag) (tg : Expr) (J : It) (fp : List Addr) (it : Addr) (tn : Nat → Heap → Prop) : Prop where
  mem : it ∈ fp
  obj : ∀ i h, tn i h → ∀ b ∈ fp, ∃ o, h.get? b = some o ∧ ∀ v, o.data ≠ .cell v
  keep : ∀ i h h', tn i h → (∀ b ∈ fp, ∀ o, h.get? b = some o → h'.get? b = some o) → tn i h'
  item : ∀ (X : Cx), X.prog = P → X.w = w → X.K = K → X.calm = true → ∀ (i : Nat) (pins : List (Addr × Obj)) (s : Shared) (σ : St) (H : Hp) (E : Value → Shared → Prop), Inv X pins σ H s → (∀ b ∈ fp, FpOk X pins H b) → tn i s.heap → J.go i H →
    wpAny (model P w) X.A (pyNext (.ref it)) (fun r s1 => ∃ u, r = some u ∧
      wpAny (model P w) X.A (letOwnedTupleGo tg (.ref it) u) (fun _ s2 => ∃ x H', Inv X pins σ H' s2 ∧ RelV x u ∧ J.yld i H x H' ∧ tn (i + 1) s2.heap ∧ ∀ b ∈ fp, H' b = none) E s1) E s
  done : ∀ (X : Cx), X.prog = P → X.w = w → X.K = K → X.calm = true → ∀ (i : Nat) (pins : List (Addr × Obj)) (s : Shared) (σ : St) (H : Hp) (E : Value → Shared → Prop), Inv X pins σ H s → (∀ b ∈ fp, FpOk X pins H b) → tn i s.heap → J.stop i H →
    wpAny (model P w) X.A (pyNext (.ref it)) (fun r s1 => r = none ∧ Inv X pins σ H s1) E s
  self : ∀ (A : Around) (i : Nat) (s : Shared) (Q : Value → Shared → Prop) (E : Value → Shared → Prop), tn i s.heap → Q (.ref it) s → wpAny (model P w) A (pyIter (.ref it)) Q E s
abbrev TI := St → Hp → (It → Hp → Prop) → Prop

def PIE (X : Cx) (pins : List (Addr × Obj)) (σ : St) (tg : Expr) (R : It → Hp → Prop) (itv : Value) (s2 : Shared) : Prop :=
  ∃ (it : Addr) (fp : List Addr) (tn : Nat → Heap → Prop) (J : It) (H' : Hp), itv = .ref it ∧ Inv X pins σ H' s2 ∧ Turn X.prog X.w X.K tg J fp it tn ∧ tn 0 s2.heap ∧ (∀ b ∈ fp, FpOk X pins H' b) ∧ R J H'
def PI (X : Cx) (tg iter : Expr) (wi : TI) : Prop :=
  ∀ (pins : List (Addr × Obj)) (s : Shared) (σ : St) (H : Hp) (R : It → Hp → Prop), Inv X pins σ H s → wi σ H R →
    wpAny (model X.prog X.w) X.A (eval iter X.env) (fun v s1 => wpAny (model X.prog X.w) X.A (pyIter v) (PIE X pins σ tg R) X.xe s1) X.xe s


theorem go_of {M : Model} {A : Around} {E : Value → Shared → Prop} {s : Shared} {tg : Expr} {it : Addr} {u : Value} {o : Obj} {n : String} {vs : Array Value} {Q : Unit → Shared → Prop} (ho : s.heap.get? it = some o) (hc : o.cls = .type n) (hd : o.data = .fields vs)
    (hn : ["enumerate", "zip", "dict_itemiterator", "dict_reverseitemiterator", "odict_iterator", "itertools.zip_longest", "itertools.pairwise"].contains n = false) (hQ : Q () s) : wpAny M A (letOwnedTupleGo tg (.ref it) u) Q E s := by
  unfold letOwnedTupleGo
  cases tg <;> first
    | exact wpAny_pure hQ
    | (cases u <;> first
        | exact wpAny_pure hQ
        | (refine wpAny_bind (wpAny_load ho ?_)
           rw [hc, hd]
           show wpAny M A (if (["enumerate", "zip", "dict_itemiterator", "dict_reverseitemiterator", "odict_iterator", "itertools.zip_longest", "itertools.pairwise"].contains n && vs[0]? == some (rawInt _)) = true then _ else _) Q E s
           rw [if_neg (by intro h; rw [hn, Bool.false_and] at h; cases h)]
           exact wpAny_pure hQ))


def Itl (K : PySem.W.Frag) (a : Addr) : It :=
  ⟨fun i H => ∃ xs x, SqL K H a xs ∧ xs[i]? = some x, fun i H x H' => H' = H ∧ ∀ xs, SqL K H a xs → xs[i]? = some x, fun i H => ∃ xs, SqL K H a xs ∧ xs.length ≤ i⟩
def Itt (K : PySem.W.Frag) (a : Addr) : It :=
  ⟨fun i H => ∃ xs x, SqT K H a xs ∧ xs[i]? = some x, fun i H x H' => H' = H ∧ ∀ xs, SqT K H a xs → xs[i]? = some x, fun i H => ∃ xs, SqT K H a xs ∧ xs.length ≤ i⟩

def Itr (lo : Int) (n : Nat) : It := ⟨fun i _ => i < n, fun i H x H' => H' = H ∧ x = .int (lo + i), fun i _ => n ≤ i⟩
theorem turn_list {P : Program} {w : World} {K : PySem.W.Frag} {tg : Expr} (a it : Addr) : Turn P w K tg (Itl K a) [it] it (fun i h => h.IsListIter it a i) where
  mem := by simp
  obj := fun i h st b hb => by
    have e : b = it := by simpa using hb
    subst e
    obtain ⟨o, e, c, d⟩ := st
    exact ⟨o, e, fun v z => by rw [d] at z; cases z⟩
  keep := fun i h h' st k => st.at fun o e => k it (by simp) o e
  item := by
    intro X hP hw hK hc i pins s σ H E I hf st hg
    subst hP hw hK
    obtain ⟨xs, x, hq, hx⟩ := hg
    obtain ⟨its, rv, p, hz⟩ := I.list hq
    obtain ⟨u, hu, ru⟩ := rv.get hx
    obtain ⟨f0, f1, f2, f3, f4, f5⟩ := hf it (by simp)
    refine wpAny_pyNext_list_item st p.isList (x := u) (by simpa using hu) fun h' st' sb => ?_
    have I1 : Inv X pins σ H { s with heap := h' } := I.turned (t' := s.toks) (fun b o hb e => (sb.2 b hb).trans e) f0 f1 f3 f4 f5
    obtain ⟨o, e, c, d⟩ := id st'
    exact ⟨u, rfl, go_of (s := { s with heap := h' }) e c d (by decide) ⟨x, H, I1, ru, ⟨rfl, fun ys hy => by rw [I.list_inj hy hq]; exact hx⟩, st', fun b hb => (hf b hb).1⟩⟩
  done := by
    intro X hP hw hK hc i pins s σ H E I hf st hg
    subst hP hw hK
    obtain ⟨xs, hq, hx⟩ := hg
    obtain ⟨its, rv, p, hz⟩ := I.list hq
    obtain ⟨f0, f1, f2, f3, f4, f5⟩ := hf it (by simp)
    have hl := rv.length
    exact wpAny_pyNext_list_end (I.ok.hd hc) st p.isList (by simp; omega) fun h' eb => ⟨rfl, I.turned (t' := s.toks) (fun b o hb e => eb b o hb e) f0 f1 f3 f4 f5⟩
  self := fun _ _ _ _ _ st h => wpAny_pyIter_listiter st h
theorem turn_tuple {P : Program} {w : World} {K : PySem.W.Frag} {tg : Expr} (a it : Addr) : Turn P w K tg (Itt K a) [it] it (fun i h => h.IsTupleIter it a i) where
  mem := by simp
  obj := fun i h st b hb => by
    have e : b = it := by simpa using hb
    subst e
    obtain ⟨o, e, c, d⟩ := st
    exact ⟨o, e, fun v z => by rw [d] at z; cases z⟩
  keep := fun i h h' st k => st.at fun o e => k it (by simp) o e
  item := by
    intro X hP hw hK hc i pins s σ H E I hf st hg
    subst hP hw hK
    obtain ⟨xs, x, hq, hx⟩ := hg
    obtain ⟨its, rv, p, hz⟩ := I.tuple hq
    obtain ⟨u, hu, ru⟩ := rv.get hx
    obtain ⟨f0, f1, f2, f3, f4, f5⟩ := hf it (by simp)
    refine wpAny_pyNext_tuple_item st (show s.heap.IsTuple a its.toArray from p) (x := u) (by simpa using hu) fun h' st' sb => ?_
    have I1 : Inv X pins σ H { s with heap := h' } := I.turned (t' := s.toks) (fun b o hb e => (sb.2 b hb).trans e) f0 f1 f3 f4 f5
    obtain ⟨o, e, c, d⟩ := id st'
    exact ⟨u, rfl, go_of (s := { s with heap := h' }) e c d (by decide) ⟨x, H, I1, ru, ⟨rfl, fun ys hy => by rw [I.tuple_inj hy hq]; exact hx⟩, st', fun b hb => (hf b hb).1⟩⟩
  done := by
    intro X hP hw hK hc i pins s σ H E I hf st hg
    subst hP hw hK
    obtain ⟨xs, hq, hx⟩ := hg
    obtain ⟨its, rv, p, hz⟩ := I.tuple hq
    obtain ⟨f0, f1, f2, f3, f4, f5⟩ := hf it (by simp)
    have hl := rv.length
    exact wpAny_pyNext_tuple_end (I.ok.hd hc) st (show s.heap.IsTuple a its.toArray from p) (by simp; omega) fun h' eb => ⟨rfl, I.turned (t' := s.toks) (fun b o hb e => eb b o hb e) f0 f1 f3 f4 f5⟩
  self := fun _ _ _ _ _ st h => wpAny_pyIter_tupleiter st h
theorem turn_range {P : Program} {w : World} {K : PySem.W.Frag} {tg : Expr} (it : Addr) (lo : Int) (n : Nat) : Turn P w K tg (Itr lo n) [it] it (fun i h => IsRangeIter h it (lo + (i : Nat) * 1) ((n : Int) - (i : Nat)) 1) where
  mem := by simp
  obj := fun i h st b hb => by
    have e : b = it := by simpa using hb
    subst e
    exact ⟨_, st, fun v z => by
      have z' : Data.fields _ = Data.cell v := z
      cases z'⟩
  keep := fun i h h' st k => k it (by simp) _ st
  item := by
    intro X hP hw hK hc i pins s σ H E I hf st hg
    subst hP hw hK
    obtain ⟨f0, f1, f2, f3, f4, f5⟩ := hf it (by simp)
    have W := Walks.range (prog := X.prog) (w := X.w) (I.ok.hd hc) it lo 1 n
    refine W.item i s _ _ hg st fun v h' tk hv st' kk => ?_
    obtain ⟨t, rfl⟩ := hv
    have I1 : Inv X pins σ H { s with heap := h', toks := tk } := I.turned (fun b o hb e => kk b o (by simpa using hb) e) f0 f1 f3 f4 f5
    refine ⟨_, rfl, go_of (s := { s with heap := h', toks := tk }) (n := "range_iterator") st' rfl rfl (by decide) ⟨.int (lo + i), H, I1, ⟨t, ?_⟩, ⟨rfl, rfl⟩, st', fun b hb => (hf b hb).1⟩⟩
    rw [Int.mul_one]
  done := by
    intro X hP hw hK hc i pins s σ H E I hf st hg
    subst hP hw hK
    obtain ⟨f0, f1, f2, f3, f4, f5⟩ := hf it (by simp)
    exact wpAny_pyNext_range_end (I.ok.hd hc) st (by have : n ≤ i := hg; omega) fun h' eb => ⟨rfl, I.turned (t' := s.toks) (fun b o hb e => eb b o hb e) f0 f1 f3 f4 f5⟩
  self := fun _ _ _ _ _ st h => wpAny_pyIter_rangeiter st h
end L2

namespace L2
open PySem PySem.Spec PyProof.Rows
section
variable {X : Cx} {tg : Expr}
def iList (K : PySem.W.Frag) (tl : TE) : TI := fun σ H R => tl σ H fun x H1 => ∃ a, x = .ref a ∧ (∃ xs, SqL K H1 a xs) ∧ R (Itl K a) H1
def iTup (K : PySem.W.Frag) (tl : TE) : TI := fun σ H R => tl σ H fun x H1 => ∃ a, x = .ref a ∧ (∃ xs, SqT K H1 a xs) ∧ R (Itt K a) H1
theorem pi_list {l : Expr} {tl : TE} (hl : PE X l tl) : PI X tg l (iList X.K tl) := by
  intro pins s σ H R I h
  refine thn (hl pins s σ H _ I h) fun v s1 ⟨x, H1, I1, r1, q1⟩ => ?_
  obtain ⟨a, e, ⟨xs, hq⟩, q⟩ := q1
  subst e
  cases r1
  obtain ⟨its, rv, p, hz⟩ := I1.list hq
  refine wpAny_pyIter_list p.isList ?_
  refine ⟨s1.heap.objs.size, [s1.heap.objs.size], _, _, H1, rfl, I1.kept (t' := s1.toks) fun b o e => Heap.get?_push_of_some _ e, turn_list a _, ⟨_, Heap.get?_push_size _ rfl, rfl, rfl⟩, fun b hb => ?_, q⟩
  have e : b = s1.heap.objs.size := by simpa using hb
  subst e
  exact I1.fpOk (Nat.le_refl _) (I1.hok.fresh (Nat.le_refl _))
theorem pi_tup {l : Expr} {tl : TE} (hl : PE X l tl) : PI X tg l (iTup X.K tl) := by
  intro pins s σ H R I h
  refine thn (hl pins s σ H _ I h) fun v s1 ⟨x, H1, I1, r1, q1⟩ => ?_
  obtain ⟨a, e, ⟨xs, hq⟩, q⟩ := q1
  subst e
  cases r1
  obtain ⟨its, rv, p, hz⟩ := I1.tuple hq
  refine wpAny_pyIter_tuple (show s1.heap.IsTuple a its.toArray from p) ?_
  refine ⟨s1.heap.objs.size, [s1.heap.objs.size], _, _, H1, rfl, I1.kept (t' := s1.toks) fun b o e => Heap.get?_push_of_some _ e, turn_tuple a _, ⟨_, Heap.get?_push_size _ rfl, rfl, rfl⟩, fun b hb => ?_, q⟩
  have e : b = s1.heap.objs.size := by simpa using hb
  subst e
  exact I1.fpOk (Nat.le_refl _) (I1.hok.fresh (Nat.le_refl _))

theorem range_it {pins : List (Addr × Obj)} {σ : St} {H : Hp} {s : Shared} {R : It → Hp → Prop} {E : Value → Shared → Prop} {lo hi : Int} {t u v : Tok} {tk : Nat} (I : Inv X pins σ H s) (h1 : -(2 ^ 62) ≤ lo) (h2 : lo < 2 ^ 62) (h3 : -(2 ^ 62) ≤ hi) (h4 : hi < 2 ^ 62)
    (q : R (Itr lo (hi - lo).toNat) H) : wpAny (model X.prog X.w) X.A (pyIter (.ref s.heap.objs.size)) (PIE X pins σ tg R) E { s with heap := s.heap.push { cls := .type "range", data := .fields #[.int lo t, .int hi u, .int 1 v] }, toks := tk } := by
  refine wpAny_pyIter_range (IsRange.new ..) (small_one h1 h2 h3 h4) ?_
  have I1 : Inv X pins σ H { s with heap := s.heap.push { cls := .type "range", data := .fields #[.int lo t, .int hi u, .int 1 v] }, toks := tk } := I.kept fun b o e => Heap.get?_push_of_some _ e
  refine ⟨(s.heap.push { cls := .type "range", data := .fields #[.int lo t, .int hi u, .int 1 v] }).objs.size, [(s.heap.push { cls := .type "range", data := .fields #[.int lo t, .int hi u, .int 1 v] }).objs.size], _, _, H, rfl,
    I1.kept (t' := tk) fun b o e => Heap.get?_push_of_some _ e, turn_range _ lo (hi - lo).toNat, ?_, fun b hb => ?_, q⟩
  · have e1 : lo + ((0 : Nat) : Int) * 1 = lo := by simp
    have e2 : (((hi - lo).toNat : Nat) : Int) - ((0 : Nat) : Int) = Builtin.Range.rangeSize lo hi 1 := by rw [rangeSize_one]; split <;> omega
    show IsRangeIter _ _ (lo + ((0 : Nat) : Int) * 1) ((((hi - lo).toNat : Nat) : Int) - ((0 : Nat) : Int)) 1
    rw [e1, e2]
    exact Heap.get?_push_size _ rfl
  · have e : b = (s.heap.push { cls := .type "range", data := .fields #[.int lo t, .int hi u, .int 1 v] }).objs.size := by simpa using hb
    subst e
    exact I1.fpOk (Nat.le_refl _) (I1.hok.fresh (Nat.le_refl _))
def iRng1 (ta : TA) : TI := fun σ H R => ta σ H fun vs H1 => ∃ j : Int, vs = [.int j] ∧ -(2 ^ 62) ≤ j ∧ j < 2 ^ 62 ∧ R (Itr 0 j.toNat) H1
def iRng2 (ta : TA) : TI := fun σ H R => ta σ H fun vs H1 => ∃ i j : Int, vs = [.int i, .int j] ∧ (-(2 ^ 62) ≤ i ∧ i < 2 ^ 62 ∧ -(2 ^ 62) ≤ j ∧ j < 2 ^ 62) ∧ R (Itr i (j - i).toNat) H1
theorem pi_range1 {a : Expr} {ta : TA} {p pos : Pos} (hg : Gl X "range") (hm : X.mg "range" = none) (ha : PA X [a] ta) (hs : starEach [a] X.env = [(false, eval a X.env)] := by rfl) : PI X tg (.Call (.Name "range" p) [a] [] pos) (iRng1 ta) := by
  intro pins s σ H R I h
  refine Call_ (ld_blt I hg hm boot_range (PyProof.Rows.callWith_type1 (thn (ha pos pins s σ H _ I h) fun us s1 ⟨vs, H1, I1, r1, q1⟩ => ?_) hs rfl))
  obtain ⟨j, e, q1, q2, q⟩ := q1
  subst e
  cases r1 with
  | cons r rr =>
    cases rr
    obtain ⟨t, rfl⟩ := r
    exact call_range_1 (range_it I1 (by omega) (by omega) q1 q2 (by simpa using q))
def tFor (wi : TI) (g : TG) (tb : TS) : TS := fun D σ H => wi σ H fun J H1 => ∃ W : Nat → Nat → St → Hp → Prop, (∃ m, W 0 m σ H1) ∧ ∀ i m σ H, W i m σ H →
  (J.stop i H ∧ D.nx σ H) ∨ (J.go i H ∧ ∃ N : St → Hp → Prop, (∀ σ' H', N σ' H' → ∃ m', m' < m ∧ W (i + 1) m' σ' H') ∧ ∀ x H', J.yld i H x H' → g x σ H' fun σ2 H2 => tb { D with nx := N, ct := N, bk := D.nx } σ2 H2)

def pinsAt (fp : List Addr) (h : Heap) : List (Addr × Obj) := fp.filterMap fun b => (h.get? b).map fun o => (b, o)
theorem mem_pinsAt {fp : List Addr} {h : Heap} {b : Addr} {o : Obj} (hb : b ∈ fp) (e : h.get? b = some o) : (b, o) ∈ pinsAt fp h := List.mem_filterMap.mpr ⟨b, hb, by rw [e]; rfl⟩
theorem of_pinsAt {fp : List Addr} {h : Heap} {p : Addr × Obj} (hp : p ∈ pinsAt fp h) : p.1 ∈ fp ∧ h.get? p.1 = some p.2 := by
  obtain ⟨b, hb, e⟩ := List.mem_filterMap.mp hp
  cases q : h.get? b with
  | none => rw [q] at e; cases e
  | some o =>
    rw [q] at e
    have e' : (b, o) = p := Option.some.inj e
    subst e'
    exact ⟨hb, q⟩
theorem Inv.pinned {pins : List (Addr × Obj)} {σ : St} {H : Hp} {s : Shared} {fp : List Addr} (I : Inv X pins σ H s) (hf : ∀ b ∈ fp, FpOk X pins H b) (ho : ∀ b ∈ fp, ∃ o, s.heap.get? b = some o ∧ ∀ v, o.data ≠ .cell v) : Inv X (pins ++ pinsAt fp s.heap) σ H s :=
  I.pins_of fun p hp => (List.mem_append.mp hp).elim (fun z => I.pin p (List.mem_append_right _ z)) fun z => by
    obtain ⟨hb, e⟩ := of_pinsAt z
    obtain ⟨f0, f1, f2, _⟩ := hf p.1 hb
    obtain ⟨o, e', d⟩ := ho p.1 hb
    rw [e] at e'; cases e'
    exact ⟨e, f0, f1, f2, d⟩
theorem Inv.unpinned {pins pl : List (Addr × Obj)} {σ : St} {H : Hp} {s : Shared} (I : Inv X (pins ++ pl) σ H s) : Inv X pins σ H s := I.pins_of fun p hp => I.pin p (List.mem_append_right _ (List.mem_append_left _ hp))
theorem ps_for {iter : Expr} {body : List Stmt} {wi : TI} {g : TG} {tb : TS} {pos : Pos} (hp : PassesOwn (model X.prog X.w) X.A X.env X.xe) (hc : X.calm = true) (hi : PI X tg iter wi) (hg : PG X tg g) (hb : PSs X body tb)
    (hs : ∀ x, foldedSetIterable iter X.env x = pure x := by intro _; rfl) : PS X (.For tg iter body [] pos) (tFor wi g tb) := by
  intro pins s σ H D I h
  refine wpAny_For (thn (hi pins s σ H _ I h) fun v s1 h1 => thn h1 fun itv s2 h2 => ?_) hs
  obtain ⟨it, fp, tn, J, H2, e, I2, T, st2, f2, W, ⟨m0, w0⟩, turn⟩ := h2
  subst e
  -- what stays true of the iterator's objects through the loop
  have stat : ∀ {H' : Hp}, (∀ b ∈ fp, H' b = none) → ∀ b ∈ fp, FpOk X pins H' b := fun hn b hb => ⟨hn b hb, (f2 b hb).2⟩
  refine codeAny_forLoop_any (fun n s' => ∃ i σ' H', Inv X pins σ' H' s' ∧ tn i s'.heap ∧ (∀ b ∈ fp, H' b = none) ∧ W i n σ' H') ?_ m0 ⟨0, σ, H2, I2, st2, fun b hb => (f2 b hb).1, w0⟩
  rintro n s3 ⟨i, σ3, H3, I3, st3, fr3, w3⟩
  rcases turn i n σ3 H3 w3 with ⟨stop, qn⟩ | ⟨go, N, hN, step⟩
  · refine wpAny_passesOwn hp (thn (T.done X rfl rfl rfl hc i pins s3 σ3 H3 X.xe I3 (stat fr3) st3 stop) fun r s4 ⟨hr, I4⟩ => ?_)
    subst hr
    exact wpAny_execs_nil ⟨σ3, H3, I4, qn⟩
  · refine wpAny_passesOwn hp (thn (T.item X rfl rfl rfl hc i pins s3 σ3 H3 X.xe I3 (stat fr3) st3 go) fun r s4 ⟨u, hr, h4⟩ => ?_)
    subst hr
    refine wpAny_passesOwn hp (thn h4 fun _ s5 ⟨x, H5, I5, r5, y5, st5, fr5⟩ => ?_)
    have I5' := I5.pinned (stat fr5) (T.obj _ _ st5)
    refine wpAny_passesOwn hp (thn (hg _ s5 σ3 H5 x u _ I5' r5 (step x H5 y5)) fun _ s6 ⟨σ6, H6, I6, q6⟩ => ?_)
    refine wpAny_passesOwn hp (thn (hb _ s6 σ6 H6 _ I6 q6) fun f s7 q7 => ?_)
    have again : ∀ {σ7 : St} {H7 : Hp}, Inv X (pins ++ pinsAt fp s5.heap) σ7 H7 s7 → N σ7 H7 → ∃ m, m < n ∧ ∃ i σ' H', Inv X pins σ' H' s7 ∧ tn i s7.heap ∧ (∀ b ∈ fp, H' b = none) ∧ W i m σ' H' := fun {σ7 H7} I7 n7 => by
      obtain ⟨m', hm, w7⟩ := hN σ7 H7 n7
      refine ⟨m', hm, i + 1, σ7, H7, I7.unpinned, T.keep _ _ _ st5 fun b hb o e => (I7.pin (b, o) (List.mem_append_right _ (List.mem_append_right _ (mem_pinsAt hb e)))).1, fun b hb => ?_, w7⟩
      obtain ⟨o, e, d⟩ := T.obj _ _ st5 b hb
      exact (I7.pin (b, o) (List.mem_append_right _ (List.mem_append_right _ (mem_pinsAt hb e)))).2.1
    cases f with
    | next => obtain ⟨σ7, H7, I7, n7⟩ := q7; exact again I7 n7
    | cont => obtain ⟨σ7, H7, I7, n7⟩ := q7; exact again I7 n7
    | brk => obtain ⟨σ7, H7, I7, q7⟩ := q7; exact ⟨σ7, H7, I7.unpinned, q7⟩
    | ret v => obtain ⟨x7, σ7, H7, I7, r7, q7⟩ := q7; exact ⟨x7, σ7, H7, I7.unpinned, r7, q7⟩
end



theorem for_list {K : PySem.W.Frag} {a : Addr} {xs : List V} {g : TG} {tb : TS} {D : Ends} {σ : St} {H : Hp} (Pv : Nat → St → Hp → Prop) (h0 : Pv 0 σ H) (hl : ∀ i σ H, i ≤ xs.length → Pv i σ H → SqL K H a xs)
    (hs : ∀ i x σ H, xs[i]? = some x → Pv i σ H → g x σ H fun σ2 H2 => tb { D with nx := Pv (i + 1), ct := Pv (i + 1), bk := D.nx } σ2 H2) (hd : ∀ σ H, Pv xs.length σ H → D.nx σ H) :
    ∃ W : Nat → Nat → St → Hp → Prop, (∃ m, W 0 m σ H) ∧ ∀ i m σ H, W i m σ H →
      ((Itl K a).stop i H ∧ D.nx σ H) ∨ ((Itl K a).go i H ∧ ∃ N : St → Hp → Prop, (∀ σ' H', N σ' H' → ∃ m', m' < m ∧ W (i + 1) m' σ' H') ∧ ∀ x H', (Itl K a).yld i H x H' → g x σ H' fun σ2 H2 => tb { D with nx := N, ct := N, bk := D.nx } σ2 H2) := by
  refine ⟨fun i m σ H => m = xs.length - i ∧ i ≤ xs.length ∧ Pv i σ H, ⟨xs.length, by simp, Nat.zero_le _, h0⟩, ?_⟩
  rintro i m σ H ⟨rfl, hi, p⟩
  have q := hl i σ H hi p
  by_cases hlt : i < xs.length
  · refine .inr ⟨⟨xs, xs[i], q, by simp [hlt]⟩, Pv (i + 1), fun σ' H' p' => ⟨xs.length - (i + 1), by omega, rfl, hlt, p'⟩, fun x H' y => ?_⟩
    obtain ⟨e, y⟩ := y
    subst e
    exact hs i x σ _ (y xs q) p
  · have e : i = xs.length := by omega
    subst e
    exact .inl ⟨⟨xs, q, Nat.le_refl _⟩, hd σ H p⟩
theorem for_tup {K : PySem.W.Frag} {a : Addr} {xs : List V} {g : TG} {tb : TS} {D : Ends} {σ : St} {H : Hp} (Pv : Nat → St → Hp → Prop) (h0 : Pv 0 σ H) (hl : ∀ i σ H, i ≤ xs.length → Pv i σ H → SqT K H a xs)
    (hs : ∀ i x σ H, xs[i]? = some x → Pv i σ H → g x σ H fun σ2 H2 => tb { D with nx := Pv (i + 1), ct := Pv (i + 1), bk := D.nx } σ2 H2) (hd : ∀ σ H, Pv xs.length σ H → D.nx σ H) :
    ∃ W : Nat → Nat → St → Hp → Prop, (∃ m, W 0 m σ H) ∧ ∀ i m σ H, W i m σ H →
      ((Itt K a).stop i H ∧ D.nx σ H) ∨ ((Itt K a).go i H ∧ ∃ N : St → Hp → Prop, (∀ σ' H', N σ' H' → ∃ m', m' < m ∧ W (i + 1) m' σ' H') ∧ ∀ x H', (Itt K a).yld i H x H' → g x σ H' fun σ2 H2 => tb { D with nx := N, ct := N, bk := D.nx } σ2 H2) := by
  refine ⟨fun i m σ H => m = xs.length - i ∧ i ≤ xs.length ∧ Pv i σ H, ⟨xs.length, by simp, Nat.zero_le _, h0⟩, ?_⟩
  rintro i m σ H ⟨rfl, hi, p⟩
  have q := hl i σ H hi p
  by_cases hlt : i < xs.length
  · refine .inr ⟨⟨xs, xs[i], q, by simp [hlt]⟩, Pv (i + 1), fun σ' H' p' => ⟨xs.length - (i + 1), by omega, rfl, hlt, p'⟩, fun x H' y => ?_⟩
    obtain ⟨e, y⟩ := y
    subst e
    exact hs i x σ _ (y xs q) p
  · have e : i = xs.length := by omega
    subst e
    exact .inl ⟨⟨xs, q, Nat.le_refl _⟩, hd σ H p⟩
theorem for_range {lo : Int} {n : Nat} {g : TG} {tb : TS} {D : Ends} {σ : St} {H : Hp} (Pv : Nat → St → Hp → Prop) (h0 : Pv 0 σ H)
    (hs : ∀ i σ H, i < n → Pv i σ H → g (.int (lo + i)) σ H fun σ2 H2 => tb { D with nx := Pv (i + 1), ct := Pv (i + 1), bk := D.nx } σ2 H2) (hd : ∀ σ H, Pv n σ H → D.nx σ H) :
    ∃ W : Nat → Nat → St → Hp → Prop, (∃ m, W 0 m σ H) ∧ ∀ i m σ H, W i m σ H →
      ((Itr lo n).stop i H ∧ D.nx σ H) ∨ ((Itr lo n).go i H ∧ ∃ N : St → Hp → Prop, (∀ σ' H', N σ' H' → ∃ m', m' < m ∧ W (i + 1) m' σ' H') ∧ ∀ x H', (Itr lo n).yld i H x H' → g x σ H' fun σ2 H2 => tb { D with nx := N, ct := N, bk := D.nx } σ2 H2) := by
  refine ⟨fun i m σ H => m = n - i ∧ i ≤ n ∧ Pv i σ H, ⟨n, by simp, Nat.zero_le _, h0⟩, ?_⟩
  rintro i m σ H ⟨rfl, hi, p⟩
  by_cases hlt : i < n
  · refine .inr ⟨hlt, Pv (i + 1), fun σ' H' p' => ⟨n - (i + 1), by omega, rfl, hlt, p'⟩, fun x H' y => ?_⟩
    obtain ⟨e, y⟩ := y
    subst e y
    exact hs i σ _ hlt p
  · have e : i = n := by omega
    subst e
    exact .inl ⟨Nat.le_refl _, hd σ H p⟩

theorem while_by {c : TT} {tb : TS} {D : Ends} {σ : St} {H : Hp} (Pv : St → Hp → Prop) (μ : St → Hp → Nat) (h0 : Pv σ H)
    (hs : ∀ σ H, Pv σ H → c σ H fun b H1 => if b = true then tb { D with nx := fun σ' H' => Pv σ' H' ∧ μ σ' H' < μ σ H, ct := fun σ' H' => Pv σ' H' ∧ μ σ' H' < μ σ H, bk := D.nx } σ H1 else D.nx σ H1)
    (mono : ∀ σ H Q Q', (∀ b H1, Q b H1 → Q' b H1) → c σ H Q → c σ H Q') : tWhile c tb D σ H := by
  refine ⟨fun m σ H => m = μ σ H ∧ Pv σ H, ⟨_, rfl, h0⟩, ?_⟩
  rintro m σ H ⟨rfl, p⟩
  refine mono σ H _ _ (fun b H1 q => ?_) (hs σ H p)
  cases b with
  | true => exact ⟨_, fun σ' H' ⟨p', l⟩ => ⟨_, l, rfl, p'⟩, q⟩
  | false => exact q
end L2

namespace L2
open PySem PySem.Spec PyProof.Rows

abbrev R2 := V → V → Hp → VK → Prop

def OpR (X : Cx) (f : Value → Value → Sem Value) (r : R2) : Prop :=
  ∀ (pins : List (Addr × Obj)) (s : Shared) (σ : St) (H : Hp) (x y : V) (v u : Value) (Q : VK), Inv X pins σ H s → RelV x v → RelV y u → r x y H Q →
    wpAny (model X.prog X.w) X.A (f v u) (EP X pins σ Q) X.xe s

def UnR (X : Cx) (f : Value → Sem Value) (r : V → Hp → VK → Prop) : Prop :=
  ∀ (pins : List (Addr × Obj)) (s : Shared) (σ : St) (H : Hp) (x : V) (v : Value) (Q : VK), Inv X pins σ H s → RelV x v → r x H Q →
    wpAny (model X.prog X.w) X.A (f v) (EP X pins σ Q) X.xe s

def CallR (X : Cx) (f : Value) (r : List V → Hp → VK → Prop) : Prop :=
  ∀ (pins : List (Addr × Obj)) (s : Shared) (σ : St) (H : Hp) (xs : List V) (us : List Value) (Q : VK), Inv X pins σ H s → Vals xs us → r xs H Q →
    wpAny (model X.prog X.w) X.A (call f us) (EP X pins σ Q) X.xe s

def TruR (X : Cx) (r : V → Hp → (Bool → Hp → Prop) → Prop) : Prop :=
  ∀ (pins : List (Addr × Obj)) (s : Shared) (σ : St) (H : Hp) (x : V) (v : Value) (Q : Bool → Hp → Prop), Inv X pins σ H s → RelV x v → r x H Q →
    wpAny (model X.prog X.w) X.A (truthy v) (TP X pins σ Q) X.xe s

def tOp (r : R2) (ta tb : TE) : TE := fun σ H Q => ta σ H fun x H1 => tb σ H1 fun y H2 => r x y H2 Q
def tUn (r : V → Hp → VK → Prop) (ta : TE) : TE := fun σ H Q => ta σ H fun x H1 => r x H1 Q

def rI (C : Int → Int → Prop) (g : Int → Int → V) : R2 := fun x y H Q => ∃ i j, x = .int i ∧ y = .int j ∧ C i j ∧ Q (g i j) H
def rI0 (g : Int → Int → V) : R2 := fun x y H Q => ∃ i j, x = .int i ∧ y = .int j ∧ Q (g i j) H
def rU (g : Int → V) : V → Hp → VK → Prop := fun x H Q => ∃ i, x = .int i ∧ Q (g i) H

section
variable {X : Cx} {a b c : Expr} {ta tb tc : TE} {pos : Pos}

theorem binT (ha : PE X a ta) (hb : PE X b tb) {pins : List (Addr × Obj)} {s : Shared} {σ : St} {H : Hp} {R : V → V → Hp → Prop} (I : Inv X pins σ H s)
    (h : ta σ H fun x H1 => tb σ H1 fun y H2 => R x y H2) {Q : Value → Shared → Prop} {f : Value → Value → Sem Value}
    (hf : ∀ v u s2 x y H2, Inv X pins σ H2 s2 → RelV x v → RelV y u → R x y H2 → wpAny (model X.prog X.w) X.A (f v u) Q X.xe s2) :
    wpAny (model X.prog X.w) X.A (eval a X.env) (fun v s₁ => wpAny (model X.prog X.w) X.A (eval b X.env) (fun u s₂ => wpAny (model X.prog X.w) X.A (f v u) Q X.xe s₂) X.xe s₁) X.xe s := by
  refine thn (ha pins s σ H _ I h) fun v s1 ⟨x, H1, I1, r1, q1⟩ => ?_
  refine thn (hb pins s1 σ H1 _ I1 q1) fun u s2 ⟨y, H2, I2, r2, q2⟩ => ?_
  exact hf v u s2 x y H2 I2 r1 r2 q2

theorem pe_op {op : Operator} {r : R2} (ho : OpR X (binaryOp op) r) (ha : PE X a ta) (hb : PE X b tb) : PE X (.BinOp a op b pos) (tOp r ta tb) := by
  intro pins s σ H Q I h
  exact wpAny_BinOp (binT ha hb I h fun v u s2 x y H2 I2 rx ry q => ho pins s2 σ H2 x y v u Q I2 rx ry q)
theorem pe_un {op : UnaryOp} {r : V → Hp → VK → Prop} (ho : UnR X (unaryOp op) r) (ha : PE X a ta) : PE X (.UnaryOp op a pos) (tUn r ta) := by
  intro pins s σ H Q I h
  exact UnaryOp_ (thn (ha pins s σ H _ I h) fun v s1 ⟨x, H1, I1, r1, q1⟩ => ho pins s1 σ H1 x v Q I1 r1 q1)

theorem opI {f : Value → Value → Sem Value} {C : Int → Int → Prop} {g : Int → Int → Int}
    (rule : ∀ (i j : Int) (t u : Tok) (s : Shared) (Q : Value → Shared → Prop) (E : Value → Shared → Prop), C i j → Q (.int (g i j) s.toks) { s with toks := s.toks + 1 } → wpAny (model X.prog X.w) X.A (f (.int i t) (.int j u)) Q E s) :
    OpR X f (rI C fun i j => .int (g i j)) := by
  intro pins s σ H x y v u Q I rx ry h
  obtain ⟨i, j, rfl, rfl, hc, q⟩ := h
  obtain ⟨t, rfl⟩ := rx
  obtain ⟨t', rfl⟩ := ry
  exact rule i j t t' s _ _ hc ⟨.int (g i j), H, I.tok _, ⟨_, rfl⟩, q⟩
theorem opI0 {f : Value → Value → Sem Value} {g : Int → Int → Int}
    (rule : ∀ (i j : Int) (t u : Tok) (s : Shared) (Q : Value → Shared → Prop) (E : Value → Shared → Prop), Q (.int (g i j) s.toks) { s with toks := s.toks + 1 } → wpAny (model X.prog X.w) X.A (f (.int i t) (.int j u)) Q E s) :
    OpR X f (rI0 fun i j => .int (g i j)) := by
  intro pins s σ H x y v u Q I rx ry h
  obtain ⟨i, j, rfl, rfl, q⟩ := h
  obtain ⟨t, rfl⟩ := rx
  obtain ⟨t', rfl⟩ := ry
  exact rule i j t t' s _ _ ⟨.int (g i j), H, I.tok _, ⟨_, rfl⟩, q⟩
theorem opB0 {f : Value → Value → Sem Value} {g : Int → Int → Bool}
    (rule : ∀ (i j : Int) (t u : Tok) (s : Shared) (Q : Value → Shared → Prop) (E : Value → Shared → Prop), Q (.bool (g i j)) s → wpAny (model X.prog X.w) X.A (f (.int i t) (.int j u)) Q E s) :
    OpR X f (rI0 fun i j => .bl (g i j)) := by
  intro pins s σ H x y v u Q I rx ry h
  obtain ⟨i, j, rfl, rfl, q⟩ := h
  obtain ⟨t, rfl⟩ := rx
  obtain ⟨t', rfl⟩ := ry
  exact rule i j t t' s _ _ ⟨.bl (g i j), H, I, rfl, q⟩

def CDiv (i j : Int) : Prop := 0 < j ∧ j < 1073741824
def CDivN (i j : Int) : Prop := j ≠ 0 ∧ j.natAbs < 1073741824
def CPow (i j : Int) : Prop := 0 ≤ j ∧ j ≤ 1000000 ∧ i.natAbs < 2 ^ 64
def CMul (i j : Int) : Prop := (-(2 ^ 64) < i ∧ i < 2 ^ 64) ∨ (-(2 ^ 64) < j ∧ j < 2 ^ 64)
theorem CMul.ok {i j : Int} (h : CMul i j) : IntMulOk i j := by
  rcases h with ⟨h1, h2⟩ | ⟨h1, h2⟩
  · exact .of_left (intBits_le_64 h1 h2)
  · exact .of_right (intBits_le_64 h1 h2)
theorem op_add : OpR X (binaryOp .Add) (rI0 fun i j => .int (i + j)) := opI0 fun _ _ _ _ _ _ _ q => add_int q
theorem op_sub : OpR X (binaryOp .Sub) (rI0 fun i j => .int (i - j)) := opI0 fun _ _ _ _ _ _ _ q => sub_int q
theorem op_mul : OpR X (binaryOp .Mult) (rI CMul fun i j => .int (i * j)) := opI fun _ _ _ _ _ _ _ hc q => mul_int q hc.ok

theorem op_fdiv : OpR X (binaryOp .FloorDiv) (rI CDiv fun i j => .int (i / j)) := opI fun i j _ _ _ _ _ hc q => by
  have h1 : (0 : Int) < j := hc.1
  have h2 : j < 1073741824 := hc.2
  exact floordiv_int (by omega) (by rw [Int.fdiv_eq_ediv_of_nonneg i (by omega)]; exact q) (.inl (PyProof.noPylong_small (by omega)))
theorem op_mod : OpR X (binaryOp .Mod) (rI (fun _ j => 0 < j) fun i j => .int (i % j)) := opI fun i j _ _ _ _ _ hc q => by
  have h1 : (0 : Int) < j := hc
  exact mod_int' (by omega) (by rw [Int.fmod_eq_emod_of_nonneg i (by omega)]; exact q)
theorem op_pow : OpR X (binaryOp .Pow) (rI CPow fun i j => .int (i ^ j.toNat)) := opI fun _ _ _ _ _ _ _ hc q => pow_int_small hc.1 hc.2.1 hc.2.2 q
theorem unI {f : Value → Sem Value} {g : Int → Int}
    (rule : ∀ (i : Int) (t : Tok) (s : Shared) (Q : Value → Shared → Prop) (E : Value → Shared → Prop), Q (.int (g i) s.toks) { s with toks := s.toks + 1 } → wpAny (model X.prog X.w) X.A (f (.int i t)) Q E s) :
    UnR X f (rU fun i => .int (g i)) := by
  intro pins s σ H x v Q I rx h
  obtain ⟨i, rfl, q⟩ := h
  obtain ⟨t, rfl⟩ := rx
  exact rule i t s _ _ ⟨.int (g i), H, I.tok _, ⟨_, rfl⟩, q⟩
theorem un_neg : UnR X (unaryOp .USub) (rU fun i => .int (-i)) := unI fun _ _ _ _ _ q => neg_int q
end



def scal : V → V → Bool
  | .non, .non => true | .non, .int _ => true | .int _, .non => true | .non, .bl _ => true | .bl _, .non => true | .non, .str _ => true | .str _, .non => true
  | .int _, .int _ => true | .bl _, .bl _ => true | .str _, .str _ => true | .byt _, .byt _ => true
  | .int _, .str _ => true | .str _, .int _ => true | .bl _, .str _ => true | .str _, .bl _ => true
  | _, _ => false
def rEq : R2 := fun x y H Q => scal x y = true ∧ Q (.bl (decide (x = y))) H
def rNe : R2 := fun x y H Q => scal x y = true ∧ Q (.bl (!decide (x = y))) H

theorem dec_int {i j : Int} : decide (V.int i = V.int j) = (i == j) := by
  rw [Bool.eq_iff_iff]
  simp
theorem dec_bl {i j : Bool} : decide (V.bl i = V.bl j) = (i == j) := by
  rw [Bool.eq_iff_iff]
  simp
theorem dec_str {i j : Str} : decide (V.str i = V.str j) = (i == j) := by
  rw [Bool.eq_iff_iff]
  simp
theorem dec_byt {i j : Array UInt8} : decide (V.byt i = V.byt j) = (i.toList == j.toList) := by
  rw [Bool.eq_iff_iff]
  cases i
  cases j
  simp

section
variable {X : Cx} {a b c : Expr} {ta tb tc : TE} {pos : Pos}
theorem fin_bl {pins : List (Addr × Obj)} {σ : St} {H : Hp} {s : Shared} {Q : VK} {k k' : Bool} (I : Inv X pins σ H s) (q : Q (.bl k) H) (e : k = k') : EP X pins σ Q (.bool k') s := by
  subst e
  exact ⟨.bl k, H, I, rfl, q⟩
theorem op_eq : OpR X (compareOp .Eq) rEq := by
  intro pins s σ H x y v u Q I rx ry h
  obtain ⟨hs, q⟩ := h
  cases x with
  | non =>
    cases rx
    cases y with
    | non => cases ry; exact PySem.EqNone.eq_none_none (fin_bl I q (by simp))
    | bl j => cases ry; exact PySem.EqNone.eq_none_bool (fin_bl I q (by simp))
    | int j => obtain ⟨t', rfl⟩ := ry; exact PySem.EqNone.eq_none_int (fin_bl I q (by simp))
    | str j => obtain ⟨t', rfl⟩ := ry; exact PySem.EqNone.eq_none_str (fin_bl I q (by simp))
    | _ => exact absurd (show false = true from hs) Bool.false_ne_true
  | bl i =>
    cases rx
    cases y with
    | non => cases ry; exact PySem.EqNone.eq_bool_none (fin_bl I q (by simp))
    | bl j => cases ry; exact eq_bool (fin_bl I q dec_bl)
    | str j => obtain ⟨t', rfl⟩ := ry; exact PySem.EqMixed.eq_bool_str (fin_bl I q (by simp))
    | _ => exact absurd (show false = true from hs) Bool.false_ne_true
  | int i =>
    obtain ⟨t, rfl⟩ := rx
    cases y with
    | non => cases ry; exact PySem.EqNone.eq_int_none (fin_bl I q (by simp))
    | int j => obtain ⟨t', rfl⟩ := ry; exact eq_int (fin_bl I q dec_int)
    | str j => obtain ⟨t', rfl⟩ := ry; exact PySem.EqMixed.eq_int_str (fin_bl I q (by simp))
    | _ => exact absurd (show false = true from hs) Bool.false_ne_true
  | str i =>
    obtain ⟨t, rfl⟩ := rx
    cases y with
    | non => cases ry; exact PySem.EqNone.eq_str_none (fin_bl I q (by simp))
    | bl j => cases ry; exact PySem.EqMixed.eq_str_bool (fin_bl I q (by simp))
    | int j => obtain ⟨t', rfl⟩ := ry; exact PySem.EqMixed.eq_str_int (fin_bl I q (by simp))
    | str j => obtain ⟨t', rfl⟩ := ry; exact eq_str (fin_bl I q dec_str)
    | _ => exact absurd (show false = true from hs) Bool.false_ne_true
  | byt i =>
    obtain ⟨t, rfl⟩ := rx
    cases y with
    | byt j => obtain ⟨t', rfl⟩ := ry; exact PySem.W.eq_bytes (fin_bl I q dec_byt)
    | _ => exact absurd (show false = true from hs) Bool.false_ne_true
  | _ => cases y <;> exact absurd (show false = true from hs) Bool.false_ne_true
theorem op_ne : OpR X (compareOp .NotEq) rNe := by
  intro pins s σ H x y v u Q I rx ry h
  obtain ⟨hs, q⟩ := h
  cases x with
  | non =>
    cases rx
    cases y with
    | non => cases ry; exact PySem.EqNone.ne_none_none (fin_bl I q (by simp))
    | bl j => cases ry; exact PySem.EqNone.ne_none_bool (fin_bl I q (by simp))
    | int j => obtain ⟨t', rfl⟩ := ry; exact PySem.EqNone.ne_none_int (fin_bl I q (by simp))
    | str j => obtain ⟨t', rfl⟩ := ry; exact PySem.EqNone.ne_none_str (fin_bl I q (by simp))
    | _ => exact absurd (show false = true from hs) Bool.false_ne_true
  | bl i =>
    cases rx
    cases y with
    | non => cases ry; exact PySem.EqNone.ne_bool_none (fin_bl I q (by simp))
    | bl j => cases ry; exact ne_bool (fin_bl I q (congrArg not dec_bl))
    | str j => obtain ⟨t', rfl⟩ := ry; exact PySem.EqMixed.ne_bool_str (fin_bl I q (by simp))
    | _ => exact absurd (show false = true from hs) Bool.false_ne_true
  | int i =>
    obtain ⟨t, rfl⟩ := rx
    cases y with
    | non => cases ry; exact PySem.EqNone.ne_int_none (fin_bl I q (by simp))
    | int j => obtain ⟨t', rfl⟩ := ry; exact ne_int (fin_bl I q (congrArg not dec_int))
    | str j => obtain ⟨t', rfl⟩ := ry; exact PySem.EqMixed.ne_int_str (fin_bl I q (by simp))
    | _ => exact absurd (show false = true from hs) Bool.false_ne_true
  | str i =>
    obtain ⟨t, rfl⟩ := rx
    cases y with
    | non => cases ry; exact PySem.EqNone.ne_str_none (fin_bl I q (by simp))
    | bl j => cases ry; exact PySem.EqMixed.ne_str_bool (fin_bl I q (by simp))
    | int j => obtain ⟨t', rfl⟩ := ry; exact PySem.EqMixed.ne_str_int (fin_bl I q (by simp))
    | str j => obtain ⟨t', rfl⟩ := ry; exact ne_str (fin_bl I q (congrArg not dec_str))
    | _ => exact absurd (show false = true from hs) Bool.false_ne_true
  | byt i =>
    obtain ⟨t, rfl⟩ := rx
    cases y with
    | byt j => obtain ⟨t', rfl⟩ := ry; exact PySem.W.ne_bytes (fin_bl I q (congrArg not dec_byt))
    | _ => exact absurd (show false = true from hs) Bool.false_ne_true
  | _ => cases y <;> exact absurd (show false = true from hs) Bool.false_ne_true

theorem op_lt : OpR X (compareOp .Lt) (rI0 fun i j => .bl (decide (i < j))) := opB0 fun _ _ _ _ _ _ _ q => lt_int q
theorem op_le : OpR X (compareOp .LtE) (rI0 fun i j => .bl (decide (i ≤ j))) := opB0 fun _ _ _ _ _ _ _ q => le_int q
theorem op_gt : OpR X (compareOp .Gt) (rI0 fun i j => .bl (decide (j < i))) := opB0 fun _ _ _ _ _ _ _ q => gt_int q
theorem op_ge : OpR X (compareOp .GtE) (rI0 fun i j => .bl (decide (j ≤ i))) := opB0 fun _ _ _ _ _ _ _ q => ge_int q
theorem op_isN : OpR X (compareOp .Is) (fun x y H Q => y = .non ∧ Q (.bl (decide (x = .non))) H) := by
  intro pins s σ H x y v u Q I rx ry h
  obtain ⟨rfl, q⟩ := h
  cases ry
  refine is_none_gen (fin_bl I q ?_)
  cases x <;> first
    | (cases rx; rfl)
    | (obtain ⟨t, rfl⟩ := rx; rfl)
theorem op_notN : OpR X (compareOp .IsNot) (fun x y H Q => y = .non ∧ Q (.bl (!decide (x = .non))) H) := by
  intro pins s σ H x y v u Q I rx ry h
  obtain ⟨rfl, q⟩ := h
  cases ry
  refine isnot_none_gen (fin_bl I q ?_)
  cases x <;> first
    | (cases rx; rfl)
    | (obtain ⟨t, rfl⟩ := rx; rfl)

def isObj : HO → Bool
  | .lst _ => true
  | .ins _ _ _ => true
  | _ => false
theorem nomark (b : Expr) {op : CmpOp} (h : op ≠ .In := by decide) (h2 : op ≠ .NotIn := by decide) : behindInMarks op b = false := by
  have e1 : (op == CmpOp.In) = false := by cases op <;> first | rfl | exact absurd rfl h
  have e2 : (op == CmpOp.NotIn) = false := by cases op <;> first | rfl | exact absurd rfl h2
  cases b <;> simp [behindInMarks, e1, e2]

theorem pe_cmpR {op : CmpOp} {r : R2} (ho : OpR X (compareOp op) r) (ha : PE X a ta) (hb : PE X b tb) (hm : behindInMarks op b = false) : PE X (.Compare a [op] [b] pos) (tOp r ta tb) := by
  intro pins s σ H Q I h
  exact wpAny_Compare1 (binT ha hb I h fun v u s2 x y H2 I2 rx ry q => ho pins s2 σ H2 x y v u Q I2 rx ry q) hm

def tTest (t : TE) : TT := fun σ H Q => t σ H fun x H' => ∃ k, x = .bl k ∧ Q k H'
theorem pt_cmpR {op : CmpOp} {r : R2} (ho : OpR X (compareOp op) r) (ha : PE X a ta) (hb : PE X b tb) (hm : behindInMarks op b = false) : PT X (.Compare a [op] [b] pos) (tTest (tOp r ta tb)) := by
  intro pins s σ H Q I h
  refine wpAny_isTrue_Compare1 (thn (ha pins s σ H _ I h) fun v s1 ⟨x, H1, I1, r1, q1⟩ => thn (hb pins s1 σ H1 _ I1 q1) fun u s2 ⟨y, H2, I2, r2, q2⟩ =>
    thn (ho pins s2 σ H2 x y v u _ I2 r1 r2 q2) fun c s3 ⟨z, H3, I3, r3, k, e, q3⟩ => ?_) hm
  subst e
  cases r3
  exact wpAny_truthy_bool ⟨H3, I3, q3⟩

def tChain (r r' : R2) (ta tb tc : TE) : TE := fun σ H Q => ta σ H fun x H1 => tb σ H1 fun y H2 => r x y H2 fun z H3 => ∃ k, z = .bl k ∧
  (if k = true then tc σ H3 fun w' H4 => r' y w' H4 Q else Q (.bl false) H3)
theorem pe_chain {op op' : CmpOp} {r r' : R2} (ho : OpR X (compareOp op) r) (ho' : OpR X (compareOp op') r') (ha : PE X a ta) (hb : PE X b tb) (hc : PE X c tc)
    (hm : lastMarks [op, op'] [b, c] = false := by with_unfolding_all rfl) : PE X (.Compare a [op, op'] [b, c] pos) (tChain r r' ta tb tc) := by
  intro pins s σ H Q I h
  refine Compare_chain (thn (ha pins s σ H _ I h) fun v s1 ⟨x, H1, I1, r1, q1⟩ => chain_link (thn (hb pins s1 σ H1 _ I1 q1) fun u s2 ⟨y, H2, I2, r2, q2⟩ =>
    thn (ho pins s2 σ H2 x y v u _ I2 r1 r2 q2) fun d s3 ⟨z, H3, I3, r3, k, e, q3⟩ => ?_)) hm
  subst e
  cases r3
  refine wpAny_truthy_bool ?_
  cases k with
  | false => exact ite_ff ⟨.bl false, H3, I3, rfl, q3⟩
  | true => exact ite_tt (chain_last (thn (hc pins s3 σ H3 _ I3 q3) fun w' s4 ⟨z', H4, I4, r4, q4⟩ => ho' pins s4 σ H4 y z' u w' Q I4 r2 r4 q4))
theorem pt_chain {op op' : CmpOp} {r r' : R2} (ho : OpR X (compareOp op) r) (ho' : OpR X (compareOp op') r') (ha : PE X a ta) (hb : PE X b tb) (hc : PE X c tc)
    (hm : lastMarks [op, op'] [b, c] = false := by with_unfolding_all rfl) : PT X (.Compare a [op, op'] [b, c] pos) (tTest (tChain r r' ta tb tc)) := by
  intro pins s σ H Q I h
  refine isTrue_chain (thn (ha pins s σ H _ I h) fun v s1 ⟨x, H1, I1, r1, q1⟩ => test_link (thn (hb pins s1 σ H1 _ I1 q1) fun u s2 ⟨y, H2, I2, r2, q2⟩ =>
    thn (ho pins s2 σ H2 x y v u _ I2 r1 r2 q2) fun d s3 ⟨z, H3, I3, r3, k, e, q3⟩ => ?_)) hm
  subst e
  cases r3
  refine wpAny_truthy_bool ?_
  cases k with
  | false =>
    obtain ⟨k', e', q'⟩ := q3
    cases e'
    exact ite_ff ⟨H3, I3, q'⟩
  | true =>
    refine ite_tt (test_last (thn (hc pins s3 σ H3 _ I3 q3) fun w' s4 ⟨z', H4, I4, r4, q4⟩ => thn (ho' pins s4 σ H4 y z' u w' _ I4 r2 r4 q4) fun d' s5 ⟨z2, H5, I5, r5, k2, e2, q5⟩ => ?_))
    subst e2
    cases r5
    exact wpAny_truthy_bool ⟨H5, I5, q5⟩



def TruV (K : PySem.W.Frag) (x : V) (H : Hp) (k : Bool) : Prop :=
  match x with
  | .non => k = false
  | .bl b => k = b
  | .int i => k = (i != 0)
  | .str y => y.length ≤ sizeLine ∧ k = ((y.length : Int) != 0)
  | .byt y => y.size ≤ sizeLine ∧ k = ((y.size : Int) != 0)
  | .ref p => (∃ xs, SqL K H p xs ∧ k = !xs.isEmpty) ∨ (∃ xs, SqT K H p xs ∧ k = !xs.isEmpty) ∨ ∃ kvs, H p = some (.dK kvs) ∧ k = !kvs.isEmpty
  | _ => False
theorem isEmpty_kv {κ : Type} {kvs : List (κ × V)} {vs : List (κ × Value)} (r : KV kvs vs) : (!vs.isEmpty) = !kvs.isEmpty := by
  cases r <;> rfl
theorem isEmpty_of {xs : List V} {its : List Value} (r : Vals xs its) : (!its.toArray.isEmpty) = !xs.isEmpty := by
  cases r <;> simp
theorem line63 : (sizeLine : Nat) < 2 ^ 63 := by rw [sizeLine_eq]; decide
theorem tru_ok : TruR X (fun x H Q => ∃ k, TruV X.K x H k ∧ Q k H) := by
  intro pins s σ H x v Q I rx h
  obtain ⟨k, e, q⟩ := h
  have hl := line63
  have hs : sizeLine = 16777216 := sizeLine_eq
  cases x with
  | non =>
    cases rx
    have e' : k = false := e
    subst e'
    exact truthy_none ⟨H, I, q⟩
  | bl b =>
    cases rx
    have e' : k = b := e
    subst e'
    exact wpAny_truthy_bool ⟨H, I, q⟩
  | int i =>
    obtain ⟨t, rfl⟩ := rx
    have e' : k = (i != 0) := e
    subst e'
    exact PySem.P.truthy_int ⟨H, I, q⟩
  | str y =>
    obtain ⟨t, rfl⟩ := rx
    obtain ⟨hy, e'⟩ : y.length ≤ sizeLine ∧ k = ((y.length : Int) != 0) := e
    subst e'
    exact PySem.P.truthy_str (by omega) ⟨H, I.tok _, q⟩
  | byt y =>
    obtain ⟨t, rfl⟩ := rx
    obtain ⟨hy, e'⟩ : y.size ≤ sizeLine ∧ k = ((y.size : Int) != 0) := e
    subst e'
    exact PySem.W.truthy_bytes (by omega) ⟨H, I.tok _, q⟩
  | ref p =>
    cases rx
    have e' : (∃ xs, SqL X.K H p xs ∧ k = !xs.isEmpty) ∨ (∃ xs, SqT X.K H p xs ∧ k = !xs.isEmpty) ∨ ∃ kvs, H p = some (.dK kvs) ∧ k = !kvs.isEmpty := e
    rcases e' with ⟨xs, hx, e'⟩ | ⟨xs, hx, e'⟩ | ⟨kvs, hx, e'⟩
    · subst e'
      obtain ⟨its, r, pl, hz⟩ := I.list hx
      have hlen := r.length
      exact wpAny_truthy_list pl.isList (by simp only [List.size_toArray]; omega) ⟨H, I.tok _, by rw [isEmpty_of r]; exact q⟩
    · subst e'
      obtain ⟨its, r, pl, hz⟩ := I.tuple hx
      have hlen := r.length
      exact truthy_tuple pl (by simp only [List.size_toArray]; omega) ⟨H, I.tok _, by rw [isEmpty_of r]; exact q⟩
    · subst e'
      obtain ⟨hz, hS, vs, r, m⟩ : kvs.length ≤ sizeLine ∧ (p == sysModules) = false ∧ ∃ vs, KV kvs vs ∧ s.heap.DictOf (mixKind X.prog X.w) p vs := I.hok p _ hx
      have hlen : kvs.length = vs.length := Paired.length r
      exact wpAny_truthy_dict hS m (by omega) ⟨H, I.tok _, by rw [isEmpty_kv r]; exact q⟩
  | _ => exact (show False from e).elim

theorem pt_truth (ha : PE X a ta) (he : ∀ whole, isTrue a X.env whole = (do let v ← whole; standAt a.pos; holding [v] (truthy v))) :
    PT X a (fun σ H Q => ta σ H fun x H' => ∃ k, TruV X.K x H' k ∧ Q k H') := by
  intro pins s σ H Q I h
  exact isTrue_plain (thn (ha pins s σ H _ I h) fun v s1 ⟨x, H1, I1, r1, q1⟩ => tru_ok pins s1 σ H1 x v Q I1 r1 q1) (he _)


theorem op_add_str : OpR X (binaryOp .Add) (fun x y H Q => ∃ i j, x = .str i ∧ y = .str j ∧ i.length + j.length ≤ sizeLine ∧ Q (.str (i ++ j)) H) := by
  intro pins s σ H x y v u Q I rx ry h
  obtain ⟨i, j, rfl, rfl, hz, q⟩ := h
  obtain ⟨t, rfl⟩ := rx
  obtain ⟨t', rfl⟩ := ry
  exact add_str (fun t' tk => ⟨.str (i ++ j), H, I.tok _, ⟨_, rfl⟩, q⟩) hz
def PlainIxT (b : Expr) : Prop := ∀ o i, subscripted b false o i = operate [o, i] (getItem o i)

theorem vals1 {x : V} {us : List Value} (r : Vals [x] us) : ∃ u, us = [u] ∧ RelV x u := by
  cases r with
  | cons r1 r2 => cases r2; exact ⟨_, rfl, r1⟩
theorem vals2 {x y : V} {us : List Value} (r : Vals [x, y] us) : ∃ u w', us = [u, w'] ∧ RelV x u ∧ RelV y w' := by
  cases r with
  | cons r1 r2 =>
    cases r2 with
    | cons r3 r4 => cases r4; exact ⟨_, _, rfl, r1, r3⟩
theorem call_max2 (hc : X.calm = true) : CallR X (.builtin "max") (fun xs H Q => ∃ i j, xs = [.int i, .int j] ∧ Q (.int (if j > i then j else i)) H) := by
  intro pins s σ H xs us Q I r h
  obtain ⟨i, j, rfl, q⟩ := h
  obtain ⟨u, w', rfl, ⟨t, rfl⟩, ⟨t', rfl⟩⟩ := vals2 r
  refine max_two_ints (I.ok.hd hc) fun h' tk k => ⟨_, H, I.kept k, ?_, q⟩
  by_cases hj : j > i
  · rw [if_pos hj, if_pos hj]; exact ⟨_, rfl⟩
  · rw [if_neg hj, if_neg hj]; exact ⟨_, rfl⟩
theorem call_min2 (hc : X.calm = true) : CallR X (.builtin "min") (fun xs H Q => ∃ i j, xs = [.int i, .int j] ∧ Q (.int (if j < i then j else i)) H) := by
  intro pins s σ H xs us Q I r h
  obtain ⟨i, j, rfl, q⟩ := h
  obtain ⟨u, w', rfl, ⟨t, rfl⟩, ⟨t', rfl⟩⟩ := vals2 r
  refine min_two_ints (I.ok.hd hc) fun h' tk k => ⟨_, H, I.kept k, ?_, q⟩
  by_cases hj : j < i
  · rw [if_pos hj, if_pos hj]; exact ⟨_, rfl⟩
  · rw [if_neg hj, if_neg hj]; exact ⟨_, rfl⟩
theorem call_int1 : CallR X (.type "int") (fun xs H Q => (∃ i, xs = [.int i] ∧ Q (.int i) H) ∨ ∃ k, xs = [.bl k] ∧ Q (.int (if k then 1 else 0)) H) := by
  intro pins s σ H xs us Q I r h
  rcases h with ⟨i, rfl, q⟩ | ⟨k, rfl, q⟩
  · obtain ⟨u, rfl, t, rfl⟩ := vals1 r
    exact call_int_int ⟨.int i, H, I, ⟨_, rfl⟩, q⟩
  · obtain ⟨u, rfl, r1⟩ := vals1 r
    cases r1
    exact call_int_bool ⟨.int (if k then 1 else 0), H, I.tok _, ⟨_, rfl⟩, q⟩
theorem call_ord : CallR X (.builtin "ord") (fun xs H Q => ∃ x, xs = [.str x] ∧ x.length = 1 ∧ Q (.int (x.cps.getD 0 0 : Nat)) H) := by
  intro pins s σ H xs us Q I r h
  obtain ⟨x, rfl, hz, q⟩ := h
  obtain ⟨u, rfl, t, rfl⟩ := vals1 r
  exact ord_of_one hz ⟨.int _, H, I.tok _, ⟨_, rfl⟩, q⟩
def LenV (K : PySem.W.Frag) (x : V) (H : Hp) (n : Nat) : Prop :=
  match x with
  | .str y => y.length ≤ sizeLine ∧ n = y.length
  | .byt y => y.size ≤ sizeLine ∧ n = y.size
  | .ref p => (∃ xs, SqL K H p xs ∧ n = xs.length) ∨ ∃ xs, SqT K H p xs ∧ n = xs.length
  | _ => False
end
end L2

namespace L2
open PySem PySem.Spec PyProof.Rows


structure ObjM (h : Heap) (x dx C : Addr) (mA : Str → Option Value) : Prop where
  obj : h.get? x = some (PySem.W.instObj C dx)
  ns : h.Ns1 dx mA
  ne : dx ≠ x

theorem lookIn_ns {h : Heap} {dx : Addr} {mA : Str → Option Value} (n : h.Ns1 dx mA) : ∃ od, h.get? dx = some od ∧ ∀ name, PySem.W.lookIn name od = some (mA name) := by
  obtain ⟨o, es, ep, ho, hd, hk, _, hm⟩ := n
  refine ⟨o, ho, fun name => ?_⟩
  have e := hm name
  unfold nsFind findBy at e
  rw [← Array.find?_toList] at e
  unfold PySem.W.lookIn
  rw [hd]
  dsimp only
  split
  · rename_i y q
    rw [q] at e
    exact congrArg some e
  · rename_i q
    rw [q] at e
    have a : es.toList.any (·.refKey) = false := by
      rw [List.any_eq_false]
      intro y hy
      obtain ⟨z, t, hkey⟩ := hk y (Array.mem_toList_iff.mp hy)
      simp [DictEntry.refKey, hkey]
    have a' : ¬ es.toList.any (·.refKey) = true := by rw [a]; exact Bool.false_ne_true
    rw [if_neg a']
    exact congrArg some e

theorem ObjM.look {h : Heap} {x dx C : Addr} {mA : Str → Option Value} (I : ObjM h x dx C mA) : ∃ od, PySem.W.InstAt h x (PySem.W.instObj C dx) C (some od) ∧ ∀ name, PySem.W.lookIn name od = some (mA name) :=
  let ⟨od, ho, hl⟩ := lookIn_ns I.ns
  ⟨od, ⟨I.obj, rfl, rfl, ho⟩, hl⟩

section
variable {prog : Program} {w : World} {A : Around} {E : Value → Shared → Prop} {s : Shared} {K : PySem.W.Frag} {x dx C f : Addr} {mA : Str → Option Value} {name : Str} {v : Value}

end


def putF (f : Str) (v : V) : List (Str × V) → List (Str × V)
  | [] => [(f, v)]
  | (g, x) :: r => if g = f then (g, v) :: r else (g, x) :: putF f v r
theorem RelO.some_of {v : V} {o : Option Value} (r : RelO (some v) o) : ∃ u, o = some u ∧ RelV v u := by
  cases o with
  | none => exact (show False from r).elim
  | some u => exact ⟨u, rfl, r⟩
theorem RelO.none_of {o : Option Value} (r : RelO none o) : o = none := by
  cases o with
  | none => rfl
  | some u => exact (show False from r).elim
section
variable {P : Program} {w : World} {H H' : Hp} {h h' : Heap} {a C dx : Addr} {fs fs' : List (Str × V)}
theorem ins_get (hok : HOk P w H h) (e : H a = some (.ins C dx fs)) : ∃ mA, ObjM h a dx C mA ∧ (∀ f, RelO (fs.lookup f) (mA f)) ∧ PySem.Within mA (fs.map (·.1)) ∧ fs.length ≤ 1000 ∧ H dx = some (.own a) := by
  obtain ⟨d, z, ne, ob, mA, n, r, q⟩ := (show ObjOk P w H h a (.ins C dx fs) from hok a _ e)
  exact ⟨mA, ⟨ob, n, ne⟩, r, q, z, d⟩
end


structure Cls (K : PySem.W.Frag) (C : Addr) : Prop where
  pg : PySem.W.plainGet K C Str.empty = true
  hd : PySem.W.hasDictIn K C = true
  po : PySem.W.plainOver K C = true
  sa : PySem.W.findIn K (.ref C) "__setattr__" = some (some (.builtin "object.__setattr__"))
theorem Cls.get {K : PySem.W.Frag} {C : Addr} (c : Cls K C) (f : Str) : PySem.W.plainGet K C f = true := c.pg

def NoAttr (K : PySem.W.Frag) (C : Addr) (f : Str) : Prop := PySem.W.findIn K (.ref C) f = some none
structure Con (K : PySem.W.Frag) (C : Addr) (f : Str) (v : V) (u : Value) : Prop where
  at_ : PySem.W.findIn K (.ref C) f = some (some u)
  rel : RelV v u
  get : PySem.W.specialIn K u "__get__" = some none
  cp : PySem.W.copiedNames.contains f = false

structure Meth (K : PySem.W.Frag) (C : Addr) (m : Str) (f : Addr) : Prop where
  at_ : PySem.W.findIn K (.ref C) m = some (some (.ref f))
  fn : PySem.W.isFn K (.ref f) = true
  kp : PySem.W.keepIn K (.ref f) = true

section
variable {X : Cx} {pins : List (Addr × Obj)} {σ : St} {H : Hp} {s : Shared} {a C dx : Addr} {fs : List (Str × V)} {f : Str} {v : V} {A : Around} {E : Value → Shared → Prop}

theorem Inv.made (I : Inv X pins σ H s) : Inv X pins σ (upd (upd H s.heap.objs.size (.own (s.heap.objs.size + 1))) (s.heap.objs.size + 1) (.ins C s.heap.objs.size []))
    { s with heap := (s.heap.push PySem.W.emptyDict).push (PySem.W.instObj C s.heap.objs.size) } := by
  have e1 : (s.heap.push PySem.W.emptyDict).get? s.heap.objs.size = some PySem.W.emptyDict := Heap.get?_push_size s.heap rfl
  have e2 : ((s.heap.push PySem.W.emptyDict).push (PySem.W.instObj C s.heap.objs.size)).get? (s.heap.objs.size + 1) = some (PySem.W.instObj C s.heap.objs.size) := by
    have := Heap.get?_push_size (s.heap.push PySem.W.emptyDict) (o := PySem.W.instObj C s.heap.objs.size) rfl
    rwa [Heap.size_push] at this
  have e3 : (s.heap.push PySem.W.emptyDict).Ns s.heap.objs.size (fun _ => none) := ⟨PySem.W.emptyDict, #[], _, e1, rfl, (fun e he => absurd he (by simp)), fun _ => rfl⟩
  have I1 := I.laid (a := s.heap.objs.size) (o := .own (s.heap.objs.size + 1)) (h' := s.heap.push PySem.W.emptyDict) (t' := s.toks) (fun b u q => Heap.get?_push_of_some _ q) (Nat.le_refl _) ⟨_, e1⟩
  refine I1.laid (a := s.heap.objs.size + 1) (o := .ins C s.heap.objs.size []) (t' := s.toks) (fun b u q => Heap.get?_push_of_some _ q) (Nat.le_of_eq (Heap.size_push _ _)) ?_
  have ne : s.heap.objs.size ≠ s.heap.objs.size + 1 := Nat.ne_of_lt (Nat.lt_succ_self _)
  refine ⟨by rw [upd_ne ne, upd_same], Nat.zero_le _, ne, e2, fun _ => none, (Heap.Ns1.of_empty e3).at fun o q => Heap.get?_push_of_some _ q, fun _ => True.intro, fun y hy => absurd rfl hy⟩


end



def tFld (K : PySem.W.Frag) (ta : TE) (f : Str) : TE := fun σ H Q => ta σ H fun x H1 => ∃ a C dx fs v, x = .ref a ∧ H1 a = some (.ins C dx fs) ∧ Cls K C ∧ NoAttr K C f ∧ fs.lookup f = some v ∧ Q v H1

def tCon (K : PySem.W.Frag) (ta : TE) (f : Str) : TE := fun σ H Q => ta σ H fun x H1 => ∃ a C dx fs v u, x = .ref a ∧ H1 a = some (.ins C dx fs) ∧ Cls K C ∧ Con K C f v u ∧ fs.lookup f = none ∧ Q v H1

def sFld (K : PySem.W.Frag) (ta tv : TE) (f : Str) : TS := fun D σ H => tv σ H fun y H1 => ta σ H1 fun x H2 => ∃ a C dx fs, x = .ref a ∧ H2 a = some (.ins C dx fs) ∧ Cls K C ∧ NoAttr K C f ∧ fs.length < 1000 ∧
  D.nx σ (upd H2 a (.ins C dx (putF f y fs)))

def InOp (X : Cx) (op : Operator) (rd : V → V → Hp → VK → Prop) : Prop :=
  ∀ (pins : List (Addr × Obj)) (s : Shared) (σ : St) (H : Hp) (x y : V) (u v : Value) (Q : VK), Inv X pins σ H s → RelV x u → RelV y v → rd x y H Q → wpAny (model X.prog X.w) X.A (inplaceOp op u v) (EP X pins σ Q) X.xe s

def sFldAug (K : PySem.W.Frag) (ta tv : TE) (rd : V → V → Hp → VK → Prop) (f : Str) : TS := fun D σ H => ta σ H fun x H1 => ∃ a C dx fs v, x = .ref a ∧ H1 a = some (.ins C dx fs) ∧ Cls K C ∧ NoAttr K C f ∧ fs.lookup f = some v ∧
  tv σ H1 fun y H2 => rd v y H2 fun z H3 => ∃ dx' fs', H3 a = some (.ins C dx' fs') ∧ fs'.length < 1000 ∧ D.nx σ (upd H3 a (.ins C dx' (putF f z fs')))

section
variable {X : Cx} {o e value : Expr} {f : Str} {pos pos' tpos : Pos} {ta tv : TE}
def rAdd : V → V → Hp → VK → Prop := fun x y H Q => ∃ i j, x = .int i ∧ y = .int j ∧ Q (.int (i + j)) H
def rSub : V → V → Hp → VK → Prop := fun x y H Q => ∃ i j, x = .int i ∧ y = .int j ∧ Q (.int (i - j)) H
end


section
variable {X : Cx} {pins : List (Addr × Obj)} {σ : St} {H : Hp} {s : Shared} {A : Around} {E : Value → Shared → Prop} {Q : Value → Shared → Prop} {c : Value} {b : Bool}

inductive TyOf (K : PySem.W.Frag) (H : Hp) : V → Value → Prop where
  | non : TyOf K H .non (.type "NoneType")
  | bl (x : Bool) : TyOf K H (.bl x) (.type "bool")
  | int (i : Int) : TyOf K H (.int i) (.type "int")
  | str (x : Str) : TyOf K H (.str x) (.type "str")
  | flt (x : UInt64) : TyOf K H (.flt x) (.type "float")
  | lst {a : Addr} {xs : List V} (e : H a = some (.lst xs)) : TyOf K H (.ref a) (.type "list")
  | frz {a : Addr} {o : Obj} {xs : List V} (e : H a = some (.frz o (.lst xs))) : TyOf K H (.ref a) (.type "list")
  | tup {a : Addr} {xs : List V} (e : H a = some (.tup xs)) : TyOf K H (.ref a) (.type "tuple")
  | dK {a : Addr} {kvs : List (Key × V)} (e : H a = some (.dK kvs)) : TyOf K H (.ref a) (.type "dict")
  | dT {a : Addr} {kvs : List (List Key × V)} (e : H a = some (.dT kvs)) : TyOf K H (.ref a) (.type "dict")
  | ins {a C dx : Addr} {fs : List (Str × V)} (e : H a = some (.ins C dx fs)) (cl : Cls K C) (ha : PySem.W.findIn K (.ref C) "__class__" = some (some (.builtin "object.__class__")))
      (hn : PySem.W.specialIn K (.builtin "object.__class__") "__get__" = some (some (.builtin "getset_descriptor.__get__"))) (htk : PySem.W.takesIn K (.builtin "object.__class__") = some true)
      (hm : PySem.W.mroIn K C (.type "object") = some true) : TyOf K H (.ref a) (.ref C)

theorem isinst_ok {x : V} {u t : Value} (I : Inv X pins σ H s) (rx : RelV x u) (ty : TyOf X.K H x t) (e : PySem.W.kitOne X.K t c = some b) (h : ∀ tk, Q (.bool b) { s with toks := tk }) :
    wpAny (model X.prog X.w) A (call (.builtin "isinstance") [u, c]) Q E s := by
  cases ty with
  | non => cases (show u = Value.none from rx); exact PySem.W.kia_one PySem.W.kitx_none I.kIn True.intro e (fun z => nomatch z) h
  | bl y => cases (show u = Value.bool y from rx); exact PySem.W.kia_one PySem.W.kitx_bool I.kIn True.intro e (fun z => nomatch z) h
  | int i => obtain ⟨t, q⟩ := (show ∃ t, u = Value.int i t from rx); cases q; exact PySem.W.kia_one PySem.W.kitx_int I.kIn True.intro e (fun z => nomatch z) h
  | str y => obtain ⟨t, q⟩ := (show ∃ t, u = Value.str y t from rx); cases q; exact PySem.W.kia_one PySem.W.kitx_str I.kIn True.intro e (fun z => nomatch z) h
  | flt y => obtain ⟨t, q⟩ := (show ∃ t, u = Value.float y t from rx); cases q; exact PySem.W.kia_one PySem.W.kitx_float I.kIn True.intro e (fun z => nomatch z) h
  | @lst a xs ea =>
    cases (show u = Value.ref a from rx)
    obtain ⟨_, _, n, _, h1⟩ := (show ObjOk X.prog X.w H s.heap a (.lst xs) from I.hok a _ ea)
    exact PySem.W.kia_one PySem.W.kitx_list I.kIn ⟨_, h1, rfl⟩ e (fun z => nomatch z) h
  | @frz a ob xs ea =>
    cases (show u = Value.ref a from rx)
    obtain ⟨_, _, _, n, _, h1⟩ := (show ObjOk X.prog X.w H s.heap a (.frz ob (.lst xs)) from I.hok a _ ea)
    exact PySem.W.kia_one PySem.W.kitx_list I.kIn ⟨_, h1, rfl⟩ e (fun z => nomatch z) h
  | @tup a xs ea =>
    cases (show u = Value.ref a from rx)
    obtain ⟨_, _, _, p⟩ := (show ObjOk X.prog X.w H s.heap a (.tup xs) from I.hok a _ ea)
    obtain ⟨o, h1, h2, _⟩ := p
    exact PySem.W.kia_one PySem.W.kitx_tuple I.kIn ⟨o, h1, h2⟩ e (fun z => nomatch z) h
  | @dK a kvs ea =>
    cases (show u = Value.ref a from rx)
    obtain ⟨_, _, vs, _, p⟩ := (show ObjOk X.prog X.w H s.heap a (.dK kvs) from I.hok a _ ea)
    obtain ⟨o, es, ep, h1, h2, _⟩ := p
    exact PySem.W.kia_one PySem.W.kitx_dict I.kIn ⟨o, h1, h2.1⟩ e (fun z => nomatch z) h
  | @dT a kvs ea =>
    cases (show u = Value.ref a from rx)
    obtain ⟨_, _, xs, _, o, es, ep, h1, h2, _⟩ := (show ObjOk X.prog X.w H s.heap a (.dT kvs) from I.hok a _ ea)
    exact PySem.W.kia_one PySem.W.kitx_dict I.kIn ⟨o, h1, h2.1⟩ e (fun z => nomatch z) h
  | @ins a C dx fs ea cl ha hn htk hm =>
    cases (show u = Value.ref a from rx)
    obtain ⟨mA, O, _⟩ := ins_get I.hok ea
    obtain ⟨od, J, _⟩ := O.look
    exact PySem.W.kia_one (PySem.W.kitx_own (cl.get _) cl.hd ha hn htk hm) I.kIn J e (fun z => nomatch z) h
end
end L2

namespace L2
open PySem PySem.Spec PyProof.Rows


structure Room (k : Nat) (A : Around) : Prop where
  hd : A.handled = none
  dp : A.depth + 3 * k + 5 < recursionLimit
  un : A.units + 16 * k + 200 < cLine
theorem Room.mono {j k : Nat} {A : Around} (r : Room k A) (h : j ≤ k) : Room j A := ⟨r.hd, by have := r.dp; omega, by have := r.un; omega⟩
theorem Room.deeper {k : Nat} {A : Around} (r : Room (k + 1) A) (env : Env) : Room k (A.deeper env) :=
  ⟨r.hd, by have := r.dp; show A.depth + 1 + 3 * k + 5 < _; omega, by have := r.un; show A.units + 3 + 16 * k + 200 < _; omega⟩
theorem Room.in1 {k : Nat} {A : Around} (r : Room (k + 1) A) : Room k A.in1 :=
  ⟨r.hd, by have := r.dp; show A.depth + 3 * k + 5 < _; omega, by have := r.un; show A.units + 1 + 16 * k + 200 < _; omega⟩
theorem Room.depth {k : Nat} {A : Around} (r : Room k A) : A.depth < recursionLimit := by have := r.dp; omega
theorem Room.units {k : Nat} {A : Around} (r : Room k A) : A.units + 64 < cLine := by have := r.un; omega
def tNil : TA := fun _ H Q => Q [] H
def tCons (ta : TE) (tr : TA) : TA := fun σ H Q => ta σ H fun x H1 => tr σ H1 fun xs H2 => Q (x :: xs) H2
section
variable {X : Cx} {e : Expr} {es : List Expr} {te : TE} {t : TA} {pos : Pos}
theorem pa_nil : PA X [] tNil := fun _ _ _ _ H Q I h => Calls.spliced_nil ⟨[], H, I, .nil, h⟩
theorem pa_cons (ha : PE X e te) (hr : PA X es t) (hs : starEach (e :: es) X.env = (false, eval e X.env) :: starEach es X.env := by rfl) : PA X (e :: es) (tCons te t) := by
  intro pos pins s σ H Q I h
  rw [hs]
  show wpAny _ _ (spliced ((false, eval e X.env) :: backTo pos (starEach es X.env))) _ _ s
  refine Calls.spliced_cons (thn (ha pins s σ H _ I h) fun u s1 ⟨x, H1, I1, r1, q1⟩ => ?_)
  exact thn (hr pos pins s1 σ H1 _ I1 q1) fun us s2 ⟨xs, H2, I2, r2, q2⟩ => ⟨x :: xs, H2, I2, .cons r1 r2, q2⟩


def tTup (t : TA) : TE := fun σ H Q => t σ H fun xs H1 => xs.length ≤ sizeLine ∧ ∀ p, H1 p = none → Q (.ref p) (upd H1 p (.tup xs))
def tLst (t : TA) : TE := fun σ H Q => t σ H fun xs H1 => xs.length ≤ sizeLine ∧ ∀ p, H1 p = none → Q (.ref p) (upd H1 p (.lst xs))
theorem pe_tup {x1} (h : PA X es t) : PE X (.Tuple es x1 pos) (tTup t) := by
  intro pins s σ H Q I hq
  refine wpAny_Tuple_spliced (thn (h pos pins s σ H _ I hq) fun us s1 ⟨xs, H1, I1, r, z, q⟩ => ⟨by rw [← r.length]; exact z, ?_⟩)
  have hf : H1 s1.heap.objs.size = none := I1.hok.fresh (Nat.le_refl _)
  refine ⟨.ref s1.heap.objs.size, upd H1 s1.heap.objs.size (.tup xs), I1.laid (t' := s1.toks) (fun b u e => Heap.get?_push_of_some _ e) (Nat.le_refl _) ?_, rfl, q _ hf⟩
  exact ⟨z, us, r, ⟨_, Heap.get?_push_size _ rfl, rfl, _, rfl⟩⟩
theorem pe_lst (h : PA X es t) : PE X (.List es pos) (tLst t) := by
  intro pins s σ H Q I hq
  refine wpAny_List_spliced (thn (h pos pins s σ H _ I hq) fun us s1 ⟨xs, H1, I1, r, z, q⟩ => ⟨by rw [← r.length]; exact z, ?_⟩)
  have hf : H1 s1.heap.objs.size = none := I1.hok.fresh (Nat.le_refl _)
  refine ⟨.ref s1.heap.objs.size, upd H1 s1.heap.objs.size (.lst xs), I1.laid (t' := s1.toks) (fun b u e => Heap.get?_push_of_some _ e) (Nat.le_refl _) ?_, rfl, q _ hf⟩
  exact ⟨z, us, 0, r, Heap.get?_push_size _ rfl⟩
end



abbrev Sp := List V → Hp → VK → XK → Prop

abbrev CXT := List Env → Hp → Shared → XK → Value → Shared → Prop


structure Env0 (P : Program) (w : World) (K : PySem.W.Frag) (mg : Str → Option Value) (base : Heap) (A : Around) (outer : List Env) (s : Shared) (H : Hp) : Prop where
  frames : A.frames = some outer
  mod : Mod K mg base
  bs : ∀ b o, base.get? b = some o → s.heap.get? b = some o ∧ H b = none
  bsz : base.objs.size ≤ s.heap.objs.size
  funs : s.heap.FunFrames base outer
  frf : ∀ b ∈ frs outer, H b = none
  hok : HOk P w H s.heap
  bare : AllBare s.gens

def CE (outer : List Env) (P : Program) (w : World) (H : Hp) (s : Shared) (Q : VK) (u : Value) (s' : Shared) : Prop :=
  ∃ v H', s'.os = s.os ∧ AllBare s'.gens ∧ Un (frs outer) [] H H' s.heap s'.heap ∧ HOk P w H' s'.heap ∧ RelV v u ∧ Q v H'
def CR (CX : CXT) (outer : List Env) (P : Program) (w : World) (H : Hp) (s : Shared) (Q : VK) (E : XK) (r : Result) (s' : Shared) : Prop :=
  match r with
  | .ok (.ret u) => CE outer P w H s Q u s'
  | .ok _ => False
  | .error e => CX outer H s E e s'
structure FnOk (P : Program) (w : World) (K : PySem.W.Frag) (mg : Str → Option Value) (base : Heap) (CX : CXT) (k : Nat) (f : Addr) (fd : FuncData) (ps : List Str) (sp : Sp) : Prop where
  len : ∀ vs H Q E, sp vs H Q E → vs.length = ps.length
  run : ∀ (A : Around) (outer : List Env) (s : Shared) (H : Hp) (args : Args) (us : List Value) (vs : List V) (Q : VK) (E : XK), Room k A → Env0 P w K mg base A outer s H → BindsTo s fd args (ps.zip us) → Vals vs us → sp vs H Q E →
    codeAny (model P w) A (.call (.ref f) args) (CR CX outer P w H s Q E) s
theorem FnOk.mono {P : Program} {w : World} {K : PySem.W.Frag} {mg : Str → Option Value} {base : Heap} {CX : CXT} {j k : Nat} {f : Addr} {fd : FuncData} {ps : List Str} {sp : Sp} (F : FnOk P w K mg base CX j f fd ps sp) (h : j ≤ k) :
    FnOk P w K mg base CX k f fd ps sp := ⟨F.len, fun A outer s H args us vs Q E hr => F.run A outer s H args us vs Q E (hr.mono h)⟩

theorem FnOk.imp {P : Program} {w : World} {K : PySem.W.Frag} {mg : Str → Option Value} {base : Heap} {CX : CXT} {k : Nat} {f : Addr} {fd : FuncData} {ps : List Str} {sp sp' : Sp} (F : FnOk P w K mg base CX k f fd ps sp)
    (h : ∀ vs H Q E, sp' vs H Q E → sp vs H Q E) : FnOk P w K mg base CX k f fd ps sp' :=
  ⟨fun vs H Q E q => F.len vs H Q E (h _ _ _ _ q), fun A outer s H args us vs Q E hr he hb hv hs => F.run A outer s H args us vs Q E hr he hb hv (h _ _ _ _ hs)⟩

theorem Env0.in1 {P : Program} {w : World} {K : PySem.W.Frag} {mg : Str → Option Value} {base : Heap} {A : Around} {outer : List Env} {s : Shared} {H : Hp} (e : Env0 P w K mg base A outer s H) :
    Env0 P w K mg base A.in1 outer s H := ⟨e.frames, e.mod, e.bs, e.bsz, e.funs, e.frf, e.hok, e.bare⟩

section
variable {X : Cx} {pins : List (Addr × Obj)} {σ : St} {H : Hp} {s s' : Shared}

theorem Inv.env0 (I : Inv X pins σ H s) : Env0 X.prog X.w X.K X.mg X.base X.A X.stack s H :=
  ⟨I.ok.frames, I.ok.mod, I.bs, Nat.le_trans I.ok.bsz I.sz, I.stack, I.stkFree, I.hok, I.bare⟩

theorem Inv.after {Q : VK} {u : Value} (I : Inv X pins σ H s) (h : CE X.stack X.prog X.w H s Q u s') : EP X pins σ Q u s' := by
  obtain ⟨v, H', os, bare, un, hok, r, q⟩ := h
  obtain ⟨hh, g, d, t, os'⟩ := s'
  obtain rfl : os' = s.os := os
  exact ⟨v, H', I.call (h' := hh) (g' := g) (d' := d) (t' := t) (ch := []) un hok bare (fun b z => absurd z (by simp)), r, q⟩
end



def tCall (sp : Sp) (dvs : List V) (E : XK) (t : TA) : TE := fun σ H Q => t σ H fun vs H1 => sp (vs ++ dvs) H1 Q E

def tMeth (C : Addr) (m : Str) (sp : Sp) (dvs : List V) (E : XK) (ta : TE) (t : TA) : TE := fun σ H Q => ta σ H fun x H1 => ∃ a dx fs, x = .ref a ∧ H1 a = some (.ins C dx fs) ∧ fs.lookup m = none ∧
  t σ H1 fun vs H2 => sp (x :: (vs ++ dvs)) H2 Q E

def tMake (C : Addr) (sp : Sp) (dvs : List V) (E : XK) (t : TA) : TE := fun σ H Q => t σ H fun vs H1 => ∀ x dx, H1 x = none → H1 dx = none → dx ≠ x →
  sp (.ref x :: (vs ++ dvs)) (upd (upd H1 dx (.own x)) x (.ins C dx [])) (fun v H2 => v = .non ∧ Q (.ref x) H2) E


def Binds (K : PySem.W.Frag) (fd : FuncData) (ps : List Str) (ds : List Value) : Prop :=
  ∀ (s : Shared) (us : List Value), K.In s.heap → (us ++ ds).length = ps.length → BindsTo s fd ⟨us, []⟩ (ps.zip (us ++ ds))

theorem Binds.all {K : PySem.W.Frag} {fd : FuncData} {ps : List Str} (h : ∀ us : List Value, us.length = ps.length → bindArgs fd ⟨us, []⟩ = pure (ps.zip us)) : Binds K fd ps [] := fun s us _ hl => by
  rw [List.append_nil] at hl ⊢
  exact .of_eq (h us hl)


def Passes (CX : CXT) (X : Cx) (E : XK) : Prop := ∀ (pins : List (Addr × Obj)) (σ : St) (H : Hp) (s : Shared) (e : Value) (s' : Shared), Inv X pins σ H s → CX X.stack H s E e s' → X.xe e s'

section
variable {X : Cx} {CX : CXT} {k : Nat} {f C : Addr} {fd : FuncData} {ps : List Str} {sp : Sp} {dvs : List V} {ds : List Value} {E : XK} {x m : Str} {p pos apos : Pos} {e o : Expr} {es : List Expr} {ta : TE} {t : TA}


theorem run_fn {pins : List (Addr × Obj)} {σ : St} {H : Hp} {s : Shared} {Q : VK} {us : List Value} {vs : List V} (F : FnOk X.prog X.w X.K X.mg X.base CX k f fd ps sp) (hr : Room k X.A) (hb : Binds X.K fd ps ds) (hd : Vals dvs ds) (hx : Passes CX X E)
    (I : Inv X pins σ H s) (r : Vals vs us) (h : sp (vs ++ dvs) H Q E) : wpAny (model X.prog X.w) X.A (call (.ref f) us) (EP X pins σ Q) X.xe s := by
  have r2 : Vals (vs ++ dvs) (us ++ ds) := r.append hd
  have hl : (us ++ ds).length = ps.length := by rw [← r2.length]; exact F.len _ _ _ _ h
  refine wpAny_call (codeAny_mono (F.run X.A X.stack s H ⟨us, []⟩ (us ++ ds) (vs ++ dvs) Q E hr I.env0 (hb s us I.kIn hl) r2 h) fun r s' hq => ?_)
  cases r with
  | error e => exact hx pins σ H s e s' I hq
  | ok fl =>
    cases fl with
    | ret u => exact I.after hq
    | next => exact False.elim hq
    | brk => exact False.elim hq
    | cont => exact False.elim hq

theorem pe_call (F : FnOk X.prog X.w X.K X.mg X.base CX k f fd ps sp) (hr : Room k X.A) (hg : Gl X x) (hm : X.mg x = some (.ref f)) (hk : PySem.W.keepIn X.K (.ref f) = true) (hb : Binds X.K fd ps ds) (hd : Vals dvs ds) (hx : Passes CX X E)
    (ha : PA X (e :: es) t) (hdb : (x == ("__debug__" : Str)) = false := by decide) (he : starEach (e :: es) X.env = (false, eval e X.env) :: starEach es X.env := by rfl) (hpl : (backTo pos (starEach es X.env)).any (·.1) = false := by rfl) :
    PE X (.Call (.Name x p) (e :: es) [] pos) (tCall sp dvs E t) := by
  intro pins s σ H Q I h
  refine wpAny_Call_Name_kw (ld_glob I hg hm ?_ hdb)
  refine PySem.W.callWith_K (h₀ := X.base) I.ok.mod.kin hk (thn (ha pos pins s σ H _ I h) fun us s1 ⟨vs, H1, I1, r, q⟩ => ⟨I1.kIn, ?_⟩) he hpl
  exact run_fn F hr hb hd hx I1 r q
structure Mk (K : PySem.W.Frag) (C f : Addr) : Prop where
  makes : PySem.W.makesIn K C = true
  init : PySem.W.findIn K (.ref C) "__init__" = some (some (.ref f))
  fn : PySem.W.isFn K (.ref f) = true
  kp : PySem.W.keepIn K (.ref C) = true

end



def PK (X : Cx) (kws : List Keyword) (t : TA) : Prop :=
  ∀ (pos : Pos) (pins : List (Addr × Obj)) (s : Shared) (σ : St) (H : Hp) (Q : List V → Hp → Prop), Inv X pins σ H s → t σ H Q → wpAny (model X.prog X.w) X.A (evalAll ((backToKw pos (keywordEach kws X.env)).map (·.2))) (AP X pins σ Q) X.xe s
section
variable {X : Cx} {CX : CXT} {k : Nat} {f C : Addr} {fd : FuncData} {ps ks : List Str} {sp : Sp} {E : XK} {x m : Str} {p pos apos kpos : Pos} {e o : Expr} {es : List Expr} {kws : List Keyword} {te ta : TE} {t tk : TA} {nm : Option Str}
structure KBinds (K : PySem.W.Frag) (fd : FuncData) (ps ks : List Str) (g : List Value → List Value → List Value) (gV : List V → List V → List V) : Prop where
  to : ∀ (s : Shared) (us ws : List Value), K.In s.heap → (g us ws).length = ps.length → BindsTo s fd ⟨us, ks.zip ws⟩ (ps.zip (g us ws))
  rel : ∀ {vs : List V} {us : List Value} {zs : List V} {ws : List Value}, Vals vs us → Vals zs ws → Vals (gV vs zs) (g us ws)
def tCallK (sp : Sp) (gV : List V → List V → List V) (E : XK) (t tk : TA) : TE := fun σ H Q => t σ H fun vs H1 => tk σ H1 fun zs H2 => sp (gV vs zs) H2 Q E
variable {g : List Value → List Value → List Value} {gV : List V → List V → List V}
end



structure FnScope (N P : List Str) (sc : Scope) : Prop where
  kind : sc.kind = .function
  co : sc.isCoroutine = false
  gen : sc.isGenerator = false
  nd : N.Nodup
  pre : N.take P.length = P
  par : ∀ x ∈ P, sc.names.lookup x = some .local ∨ sc.names.lookup x = some .cell
  nofree : ∀ y ∈ sc.names, y.2 ≠ .free

theorem bindL_out {kindOf : Str → Option NameKind} {x : Str} : ∀ {binds : List (Str × Value)} {m : Str → Option Value}, (∀ v, (x, v) ∉ binds) → bindL kindOf binds m x = m x
  | [], _, _ => rfl
  | (n, v) :: r, m, h => by
    unfold bindL
    rw [bindL_out fun w hw => h w (List.mem_cons_of_mem _ hw)]
    split
    · have : x ≠ n := by rintro rfl; exact h v List.mem_cons_self
      simp [this]
    · rfl
theorem bindC_out {kindOf : Str → Option NameKind} {x : Str} : ∀ {binds : List (Str × Value)} {m : Str → Option Value}, (∀ v, (x, v) ∉ binds) → bindC kindOf binds m x = m x
  | [], _, _ => rfl
  | (n, v) :: r, m, h => by
    unfold bindC
    rw [bindC_out fun w hw => h w (List.mem_cons_of_mem _ hw)]
    split
    · rfl
    · have : x ≠ n := by rintro rfl; exact h v List.mem_cons_self
      simp [this]
theorem bindL_get {kindOf : Str → Option NameKind} {x : Str} {v : Value} : ∀ {P : List Str} {vs : List Value} {i : Nat} {m : Str → Option Value}, P.Nodup → P[i]? = some x → vs[i]? = some v → kindOf x = some .local →
    bindL kindOf (P.zip vs) m x = some v
  | [], _, _, _, _, h, _, _ => by simp at h
  | _ :: _, [], _, _, _, _, h, _ => by simp at h
  | p :: P, w :: vs, 0, m, nd, h1, h2, hk => by
    simp at h1 h2; subst h1; subst h2
    show bindL kindOf ((p, w) :: P.zip vs) m p = _
    unfold bindL
    rw [bindL_out fun v hv => (List.nodup_cons.mp nd).1 (List.of_mem_zip hv).1, if_pos hk]
    simp
  | p :: P, w :: vs, i + 1, m, nd, h1, h2, hk => by
    show bindL kindOf ((p, w) :: P.zip vs) m x = _
    unfold bindL
    exact bindL_get (i := i) (List.nodup_cons.mp nd).2 (by simpa using h1) (by simpa using h2) hk
theorem bindC_get {kindOf : Str → Option NameKind} {x : Str} {v : Value} : ∀ {P : List Str} {vs : List Value} {i : Nat} {m : Str → Option Value}, P.Nodup → P[i]? = some x → vs[i]? = some v → kindOf x ≠ some .local →
    bindC kindOf (P.zip vs) m x = some v
  | [], _, _, _, _, h, _, _ => by simp at h
  | _ :: _, [], _, _, _, _, h, _ => by simp at h
  | p :: P, w :: vs, 0, m, nd, h1, h2, hk => by
    simp at h1 h2; subst h1; subst h2
    show bindC kindOf ((p, w) :: P.zip vs) m p = _
    unfold bindC
    rw [bindC_out fun v hv => (List.nodup_cons.mp nd).1 (List.of_mem_zip hv).1, if_neg hk]
    simp
  | p :: P, w :: vs, i + 1, m, nd, h1, h2, hk => by
    show bindC kindOf ((p, w) :: P.zip vs) m x = _
    unfold bindC
    exact bindC_get (i := i) (List.nodup_cons.mp nd).2 (by simpa using h1) (by simpa using h2) hk


def start (N : List Str) (vs : List V) : St := vs.map some ++ List.replicate (N.length - vs.length) none


def cxOf (CX : CXT) (P : Program) (w : World) (K : PySem.W.Frag) (mg : Str → Option Value) (base : Heap) (N : List Str) (qual : Str) (scope : Scope) (f : Addr) (cd : Value) (A : Around) (outer : List Env) (s : Shared) (H : Hp) (E : XK) : Cx where
  prog := P
  w := w
  K := K
  mg := mg
  base := base
  A := A.deeper (envOfC qual scope s.heap.objs.size f cd)
  N := N
  s₀ := s
  H₀ := H
  env := envOfC qual scope s.heap.objs.size f cd
  outer := outer
  stack := envOfC qual scope s.heap.objs.size f cd :: outer
  ex := []
  calm := true
  fn := fun _ => true
  pn := []
  xe := fun e s' => wpAny (model P w) (A.deeper (envOfC qual scope s.heap.objs.size f cd)) (leaving (envOfC qual scope s.heap.objs.size f cd) e) (fun _ s'' => CX outer H s E e s'') (fun e' s'' => CX outer H s E e' s'') s'

theorem cell_has {sc : Scope} {n : Nat} {x : Str} (h : sc.names.lookup x = some .cell) : ∃ c, (cellsFrom n sc.names []).lookup x = some c := by
  have q := PySem.W.cellsFrom_some sc.names n [] (.inl h)
  exact Option.isSome_iff_exists.mp q

theorem inv_start {CX : CXT} {P : Program} {w : World} {K : PySem.W.Frag} {mg : Str → Option Value} {base : Heap} {N ps : List Str} {qual : Str} {scope : Scope} {f : Addr} {cd : Value} {A : Around} {outer : List Env} {s s1 : Shared} {H : Hp} {E : XK} {us : List Value} {vs : List V}
    (S : FnScope N ps scope) (hd : A.handled = none) (e0 : Env0 P w K mg base A outer s H) (hl : vs.length = ps.length) (r : Vals vs us)
    (x : InCallC s s.heap.objs.size (bindL (envOfC qual scope s.heap.objs.size f cd).kindOf (ps.zip us) fun _ => none) (cellsFrom (s.heap.objs.size + 1) scope.names []) (bindC (envOfC qual scope s.heap.objs.size f cd).kindOf (ps.zip us) fun _ => none) s1) :
    Inv (cxOf CX P w K mg base N qual scope f cd A outer s H E) [] (start N vs) H s1 := by
  have hpl : ps.length ≤ N.length := by have := congrArg List.length S.pre; rw [List.length_take] at this; omega
  obtain ⟨h1, tk, rfl, hk⟩ := x.done
  have noA : ∀ b : Addr, b ∉ (cxOf CX P w K mg base N qual scope f cd A outer s H E).ex := fun b z => absurd (show b ∈ ([] : List Addr) from z) (by simp)
  refine ⟨⟨e0.mod, S.kind, rfl, rfl, Nat.le_refl _, fun y z c h1 h2 => ?_, fun y hy => ?_, fun y c _ h => ?_, fun _ => hd, Around.frames_deeper e0.frames, .inr ⟨rfl, rfl⟩, fun b z => absurd z (noA b), e0.bs, e0.bsz, fun b _ _ => noA b, fun b z => absurd z (noA b), e0.funs, e0.frf⟩,
    rfl, e0.bare, Un.kept hk, ⟨_, x.toInCall.ns, fun i y v h1 h2 h3 => ?_⟩, fun y c h => ⟨_, x.cell y c h⟩, e0.hok.fresh (Nat.le_refl _), fun y c h => ?_, fun p hp => absurd (show p ∈ ([] : List (Addr × Obj)) from hp) (by simp), e0.hok.kept hk, ?_⟩
  · exact name_of_addr x.apart (PySem.mem_of_lookup h1) (PySem.mem_of_lookup h2)
  · have hy : scope.names.lookup y = some .cell ∨ scope.names.lookup y = some .free := hy
    rcases hy with hy | hy
    · exact cell_has hy
    · exact absurd rfl (S.nofree _ (PySem.mem_of_lookup hy))
  · exact Nat.le_of_lt (x.above y c (PySem.mem_of_lookup h))
  · have hi : i < vs.length := by
      unfold start at h2
      by_cases hi : i < vs.length
      · exact hi
      · rw [List.getElem?_append_right (by simpa using hi)] at h2
        rw [List.getElem?_replicate] at h2
        split at h2 <;> cases h2
    have ha : vs[i]? = some v := by
      unfold start at h2
      rw [List.getElem?_append_left (by simpa using hi), List.getElem?_map] at h2
      cases e : vs[i]? with
      | none => rw [e] at h2; cases h2
      | some a => rw [e] at h2; cases h2; rfl
    obtain ⟨u, hu, rv⟩ := r.get ha
    have hp : ps[i]? = some y := by
      rw [← S.pre, List.getElem?_take_of_lt (by omega)]; exact h1
    have ndP : ps.Nodup := by rw [← S.pre]; exact S.nd.sublist (List.take_sublist _ _)
    refine ⟨u, rv, ?_⟩
    rcases S.par y (List.mem_of_getElem? hp) with k | k
    · exact .inl ⟨k, bindL_get ndP hp hu k⟩
    · obtain ⟨c, e⟩ := cell_has (n := s.heap.objs.size + 1) k
      refine .inr ⟨.inl k, c, e, ?_⟩
      have q := x.cell y c e
      rw [bindC_get ndP hp hu (by show scope.names.lookup y ≠ _; rw [k]; decide)] at q
      exact q
  · exact e0.hok.fresh (Nat.le_of_lt (x.above y c (PySem.mem_of_lookup h)))
  · unfold start
    show _ = N.length
    rw [List.length_append, List.length_map, List.length_replicate]
    omega


theorem fn_of {CX : CXT} {P : Program} {w : World} {K : PySem.W.Frag} {mg : Str → Option Value} {base : Heap} {k : Nat} {f : Addr} {name qual : Str} {params : Arguments} {body : List Stmt} {scope : Scope} {dV kV doc pm cdv ct oc : Value} {an od : Option Addr}
    {osl : Array (Option Value)} {N ps : List Str} {sp : Sp} (lk : K.lookup f = some ⟨oc, od, .func (PySem.W.fnOf name qual params body scope dV kV doc pm an cdv ct), osl⟩) (hcd : PySem.W.codeIn K cdv qual = true) (S : FnScope N ps scope)
    (len : ∀ vs H Q E, sp vs H Q E → vs.length = ps.length)
    (hbody : ∀ (A : Around) (outer : List Env) (s : Shared) (H : Hp) (vs : List V) (Q : VK) (E : XK), Room k (A.deeper (envOfC qual scope s.heap.objs.size f cdv)) → sp vs H Q E →
      ∃ t, PSs (cxOf CX P w K mg base N qual scope f cdv A outer s H E) body t ∧ t { nx := fun _ H' => Q .non H', rt := Q } (start N vs) H) :
    FnOk P w K mg base CX (k + 1) f (PySem.W.fnOf name qual params body scope dV kV doc pm an cdv ct) ps sp := by
  refine ⟨len, fun A outer s H args us vs Q E hr e0 hb r hsp => ?_⟩
  have hl := len _ _ _ _ hsp
  have KX : K.In s.heap := e0.mod.kin.keeps fun b o e => (e0.bs b o e).1
  have lim : s.heap.NoLimit := e0.mod.nolimit.keeps fun b o e => (e0.bs b o e).1
  have hkind : ∀ y ∈ ps.zip us, scope.names.lookup y.1 = some .local ∨ (scope.names.lookup y.1 = some .cell ∧ ((cellsFrom (s.heap.objs.size + 1) scope.names []).lookup y.1).isSome = true) := fun ⟨n, v⟩ hy => by
    rcases S.par n (List.of_mem_zip hy).1 with q | q
    · exact .inl q
    · exact .inr ⟨q, PySem.W.cellsFrom_some _ _ _ (.inl q)⟩
  refine codeAny_call_function hr.depth (KX _ _ lk) rfl S.co S.gen rfl (PySem.W.codeRec_of KX hcd) (hb _ _ _ _ ?_)
  refine wpAny_newFunctionEnv_cells S.kind hkind fun env he s1 x => ?_
  subst he
  refine ⟨lim.keeps x.toInCall.keep, codeAny_func ?_⟩
  obtain ⟨t, ht, hq⟩ := hbody A outer s H vs Q E (hr.deeper _) hsp
  have I : Inv (cxOf CX P w K mg base N qual scope f cdv A outer s H E) [] (start N vs) H s1 := inv_start S hr.hd e0 hl r x
  refine wpAny_mono (ht [] s1 (start N vs) H _ I hq) (fun fl s' hs => ?_) fun e s' hs => hs
  have fin : ∀ {σ' : St} {H' : Hp} {v : V} {u : Value}, Inv (cxOf CX P w K mg base N qual scope f cdv A outer s H E) [] σ' H' s' → RelV v u → Q v H' → CE outer P w H s Q u s' :=
    fun {σ' H' v u} J rv q => ⟨v, H', J.os, J.bare, J.base, J.hok, rv, q⟩
  cases fl with
  | ret u =>
    obtain ⟨v, σ', H', J, rv, q⟩ := hs
    exact fin J rv q
  | next =>
    obtain ⟨σ', H', J, q⟩ := hs
    exact fin (v := V.non) (u := Value.none) J rfl q
  | brk =>
    obtain ⟨_, _, _, q⟩ := hs
    exact False.elim q
  | cont =>
    obtain ⟨_, _, _, q⟩ := hs
    exact False.elim q
end L2

namespace L2
open PySem PySem.Spec PyProof.Rows
section
variable {X : Cx} {x : Str} {p pos : Pos} {e : Expr} {es : List Expr} {t : TA} {id T : String} {r : List V → Hp → VK → Prop}

def tCB (r : List V → Hp → VK → Prop) (t : TA) : TE := fun σ H Q => t σ H fun vs H1 => r vs H1 Q

theorem pe_callB (hc : CallR X (.builtin id) r) (hg : Gl X x) (hm : X.mg x = none) (hv : bootBuiltins x = some (.builtin id)) (ha : PA X (e :: es) t) (hn : x ≠ "__name__" := by decide) (hdb : (x == ("__debug__" : Str)) = false := by decide)
    (he : starEach (e :: es) X.env = (false, eval e X.env) :: starEach es X.env := by rfl) (hpl : (backTo pos (starEach es X.env)).any (·.1) = false := by rfl) : PE X (.Call (.Name x p) (e :: es) [] pos) (tCB r t) := by
  intro pins s σ H Q I h
  refine wpAny_Call_Name_kw (ld_blt I hg hm hv ?_ hn hdb)
  exact PyProof.Rows.callWith_builtin1 (thn (ha pos pins s σ H _ I h) fun us s1 ⟨vs, H1, I1, r1, q1⟩ => hc pins s1 σ H1 vs us Q I1 r1 q1) he hpl

theorem pe_callTy (hc : CallR X (.type T) r) (hg : Gl X x) (hm : X.mg x = none) (hv : bootBuiltins x = some (.type T)) (ha : PA X (e :: es) t) (hn : x ≠ "__name__" := by decide) (hdb : (x == ("__debug__" : Str)) = false := by decide)
    (he : starEach (e :: es) X.env = (false, eval e X.env) :: starEach es X.env := by rfl) (hpl : (backTo pos (starEach es X.env)).any (·.1) = false := by rfl) : PE X (.Call (.Name x p) (e :: es) [] pos) (tCB r t) := by
  intro pins s σ H Q I h
  refine wpAny_Call_Name_kw (ld_blt I hg hm hv ?_ hn hdb)
  exact PyProof.Rows.callWith_type1 (thn (ha pos pins s σ H _ I h) fun us s1 ⟨vs, H1, I1, r1, q1⟩ => hc pins s1 σ H1 vs us Q I1 r1 q1) he hpl

end
end L2

namespace HT
open PySem PyProof.Rows


def lexLt : List Int → List Int → Bool
  | [], [] => false
  | [], _ :: _ => true
  | _ :: _, [] => false
  | x :: xs, y :: ys => if x = y then lexLt xs ys else decide (x < y)
section
open PySem.SeqAt
open PySem.AutoSeq1 (wpAny_loadPart')
open PySem.MeetsSeq PySem.MeetsSeq2 PySem.MeetsSeq3

end

section
variable {prog : Program} {w : World} {A : Around} {E : Value → Shared → Prop} {s : Shared}

def sIx (n d : Nat) : Option Int → Nat
  | none => d
  | some v => if v < 0 then (v + (n : Int)).toNat else min v.toNat n
theorem sIx_nat (n d k : Nat) : sIx n d (some (k : Int)) = min k n := by
  show (if (k : Int) < 0 then ((k : Int) + (n : Int)).toNat else min (k : Int).toNat n) = min k n
  rw [if_neg (by omega), Int.toNat_natCast]
theorem sIx_le (n d : Nat) (hd : d ≤ n) (o : Option Int) : sIx n d o ≤ n := by
  cases o with
  | none => exact hd
  | some v =>
    show (if v < 0 then (v + (n : Int)).toNat else min v.toNat n) ≤ n
    by_cases hv : v < 0
    · rw [if_pos hv]; omega
    · rw [if_neg hv]; exact Nat.min_le_right _ _
theorem clip_eq (v : Int) (n d : Nat) : (if v < 0 then max (v + (n : Int)) 0 else min v (n : Int)) = ((sIx n d (some v) : Nat) : Int) := by
  show (if v < 0 then max (v + (n : Int)) 0 else min v (n : Int)) = (((if v < 0 then (v + (n : Int)).toNat else min v.toNat n) : Nat) : Int)
  by_cases hv : v < 0
  · simp only [if_pos hv]; omega
  · simp only [if_neg hv]; omega
theorem adjust_gen (lo hi : Option Int) (n : Nat) : Builtin.Slice.sliceAdjust lo hi 1 (n : Int) = (((sIx n 0 lo : Nat) : Int), ((sIx n n hi : Nat) : Int)) := by
  have h1 : ¬ ((1 : Int) < 0) := by omega
  unfold Builtin.Slice.sliceAdjust
  simp only [h1, if_false]
  refine Prod.ext ?_ ?_
  · cases lo with
    | none => rfl
    | some v => exact clip_eq v n 0
  · cases hi with
    | none => rfl
    | some v => exact clip_eq v n n
theorem places_gen (i j : Nat) : Builtin.Slice.slicePlaces (i : Int) (j : Int) 1 = j - i := by
  unfold Builtin.Slice.slicePlaces
  have h1 : (1 : Int) > 0 := by omega
  simp only [h1, if_true, Int.ediv_one]
  split <;> omega
theorem slicePart_ {v : Value} {o : Option Int} {Q : Option Int → Shared → Prop} (p : IsPart v o) (h : Q o s) : wpAny (model prog w) A (Builtin.Slice.slicePartIndex v) Q E s := by
  cases p with
  | none => exact slicePart_none h
  | int i t => exact slicePart_int h
theorem sliceApplied_gen {sl : Addr} {vl vu : Value} {lo hi : Option Int} {n : Nat} {Q : Int × Int × Nat → Shared → Prop} (hs : s.heap.IsSliceOf sl vl vu .none) (pl : IsPart vl lo) (pu : IsPart vu hi)
    (h : Q (((sIx n 0 lo : Nat) : Int), 1, sIx n n hi - sIx n 0 lo) s) : wpAny (model prog w) A (Builtin.Slice.sliceApplied (.ref sl) (pure (n : Int))) Q E s := by
  obtain ⟨os, hos, hcs, hds⟩ := id hs
  unfold Builtin.Slice.sliceApplied Builtin.Slice.sliceFields
  refine wpAny_bind (wpAny_bind (wpAny_field hos hds (x := vl) rfl (wpAny_bind (wpAny_field hos hds (x := vu) rfl (wpAny_bind (wpAny_field hos hds (x := .none) rfl (wpAny_pure ?_)))))))
  refine wpAny_bind (slicePart_none ?_)
  show wpAny _ _ (if ((1 : Int) == 0) = true then _ else _) _ _ s
  rw [if_neg (by decide)]
  refine wpAny_bind (slicePart_ pl (wpAny_bind (slicePart_ pu (wpAny_bind (wpAny_pure ?_)))))
  show wpAny _ _ (match Builtin.Slice.sliceAdjust lo hi 1 (n : Int) with | (lo, hi) => pure (lo, (1 : Int), Builtin.Slice.slicePlaces lo hi 1)) _ _ s
  rw [adjust_gen lo hi n]
  show wpAny _ _ (pure (((sIx n 0 lo : Nat) : Int), (1 : Int), Builtin.Slice.slicePlaces ((sIx n 0 lo : Nat) : Int) ((sIx n n hi : Nat) : Int) 1)) _ _ s
  rw [places_gen]
  exact wpAny_pure h
theorem pick_gen (xs : Array Value) (i k : Nat) : ((List.range k).filterMap fun (m : Nat) => xs[((i : Int) + (m : Int) * 1).toNat]?).toArray = ((xs.toList.drop i).take k).toArray := by
  have e : (fun (m : Nat) => xs[((i : Int) + (m : Int) * 1).toNat]?) = fun m => xs[i + m]? := by
    funext m
    have : ((i : Int) + (m : Int) * 1).toNat = i + m := by omega
    rw [this]
  rw [e]
  have := pick_run xs i k
  rw [List.filterMap_map] at this
  have e2 : ((fun x => xs[x]?) ∘ fun x => i + x) = fun m => xs[i + m]? := rfl
  rw [e2] at this
  rw [this]

theorem getItem_tuple_cut {t sl : Addr} {items : Array Value} {vl vu : Value} {lo hi : Option Int} {Q : Value → Shared → Prop} (ht : IsTup s.heap t items) (hs : s.heap.IsSliceOf sl vl vu .none) (pl : IsPart vl lo) (pu : IsPart vu hi)
    (hw : ¬ (sIx items.size 0 lo = 0 ∧ sIx items.size items.size hi = items.size))
    (h : Q (.ref s.heap.objs.size) { s with heap := s.heap.push { cls := .type "tuple", data := .seq ((items.toList.drop (sIx items.size 0 lo)).take (sIx items.size items.size hi - sIx items.size 0 lo)).toArray } })
    (hsz : items.size ≤ sizeLine) : wpAny (model prog w) A (getItem (.ref t) (.ref sl)) Q E s := by
  have htake : sizeOk (.seq ((items.toList.drop (sIx items.size 0 lo)).take (sIx items.size items.size hi - sIx items.size 0 lo)).toArray) := by
    show ((items.toList.drop (sIx items.size 0 lo)).take (sIx items.size items.size hi - sIx items.size 0 lo)).toArray.size ≤ sizeLine
    rw [List.size_toArray, List.length_take, List.length_drop, Array.length_toList]
    omega
  have hj : sIx items.size items.size hi ≤ items.size := sIx_le _ _ (Nat.le_refl _) hi
  obtain ⟨os, hos, hcs, hds⟩ := id hs
  have hTs : s.TypeIs (.ref sl) "slice" := ⟨os, hos, hcs⟩
  unfold getItem
  try with_reducible refine wpAny_holding ?_
  first | refine wpAny_bind (wpAny_pure ?_) | skip
  refine wpAny_bind (wpAny_sequenceKey ht.typeIs (by decide) ?_)
  refine wpAny_bind (wpAny_callSpecial?_slot (name := Str.ofString "__getitem__") ht.typeIs PyProof.Rows.slot_tuple_getitem
    (wpAny_call_entry PyProof.Rows.slot_tuple_getitem ht.typeIs entry_tuple_getitem ?_ (args_tuple_getitem _ _)))
  show wpAny _ _ (Builtin.Tuple.tupleItemsOf (.ref t) >>= _) _ _ s
  refine wpAny_bind (tupleItemsOf_ ht ?_)
  refine wpAny_bind (wpAny_typeOf hTs ?_)
  rw [if_pos (by decide)]
  refine wpAny_bind (sliceApplied_gen hs pl pu ?_)
  have hno : ¬ ((((sIx items.size 0 lo : Nat) : Int) == 0 && (1 : Int) == 1 && (sIx items.size items.size hi - sIx items.size 0 lo) == items.size) = true) := by
    intro q
    rw [Bool.and_eq_true, Bool.and_eq_true] at q
    have q1 : ((sIx items.size 0 lo : Nat) : Int) = 0 := eq_of_beq q.1.1
    have q2 : sIx items.size items.size hi - sIx items.size 0 lo = items.size := eq_of_beq q.2
    exact hw ⟨by omega, by omega⟩
  show wpAny _ _ (if (((sIx items.size 0 lo : Nat) : Int) == 0 && (1 : Int) == 1 && (sIx items.size items.size hi - sIx items.size 0 lo) == items.size) = true then _ else _) _ _ s
  rw [if_neg hno, pick_gen]
  first
    | exact wpAny_bind (m := Builtin.Tuple.tupleExact _) (wpAny_newObj_type (wpAny_pure ⟨_, rfl, wpAny_pure h⟩) htake)
    | exact wpAny_bind (m := Builtin.Tuple.tupleExact _) (wpAny_newObj_type (wpAny_bind (wpAny_pure (wpAny_pure ⟨_, rfl, wpAny_pure h⟩))) htake)
    | exact wpAny_bind (wpAny_bind (m := Builtin.Tuple.tupleExact _) (wpAny_newObj_type (wpAny_pure (wpAny_pure ⟨_, rfl, wpAny_pure h⟩)) htake))
    | exact wpAny_bind (wpAny_bind (m := Builtin.Tuple.tupleExact _) (wpAny_newObj_type (wpAny_pure ⟨_, rfl, wpAny_pure h⟩) htake))
end
end HT

namespace L2
open PySem PySem.Spec PyProof.Rows


abbrev TO := St → Hp → (Option Int → Hp → Prop) → Prop

def PO (X : Cx) (e : Option Expr) (t : TO) : Prop :=
  ∀ (pins : List (Addr × Obj)) (s : Shared) (σ : St) (H : Hp) (Q : Option Int → Hp → Prop), Inv X pins σ H s → t σ H Q →
    wpAny (model X.prog X.w) X.A (evalPart e X.env) (fun u s' => ∃ o H', Inv X pins σ H' s' ∧ IsPart u o ∧ Q o H') X.xe s
def tNoPart : TO := fun _ H Q => Q none H
def tPart (t : TE) : TO := fun σ H Q => t σ H fun x H1 => ∃ i, x = .int i ∧ Q (some i) H1

section
variable {X : Cx} {e : Expr} {te : TE} {lo hi : Option Expr} {tl th : TO} {pos p2 : Pos}

theorem po_none : PO X none tNoPart := by
  intro pins s σ H Q I h
  rw [evalPart_none]
  exact wpAny_pure ⟨none, H, I, .none, h⟩
theorem po_some (h : PE X e te) : PO X (some e) (tPart te) := by
  intro pins s σ H Q I hw
  rw [evalPart_some]
  refine thn (h pins s σ H _ I hw) fun u s1 ⟨x, H1, I1, r1, q1⟩ => ?_
  obtain ⟨i, rfl, q⟩ := q1
  obtain ⟨t, rfl⟩ := r1
  exact ⟨some i, H1, I1, .int i t, q⟩


def SlR (X : Cx) (r : V → Option Int → Option Int → Hp → VK → Prop) : Prop :=
  ∀ (pins : List (Addr × Obj)) (s : Shared) (σ : St) (H : Hp) (x : V) (v vl vu : Value) (lo hi : Option Int) (sl : Addr) (Q : VK), Inv X pins σ H s → RelV x v → s.heap.IsSliceOf sl vl vu .none → IsPart vl lo → IsPart vu hi → r x lo hi H Q →
    ∃ T id, typeLookup (.type T) "__getitem__" = pure (some (.builtin id)) ∧ s.TypeIs v T ∧ wpAny (model X.prog X.w) X.A (getItem v (.ref sl)) (EP X pins σ Q) X.xe s
def tSl (r : V → Option Int → Option Int → Hp → VK → Prop) (te : TE) (tl th : TO) : TE := fun σ H Q => te σ H fun x H1 => tl σ H1 fun l H2 => th σ H2 fun u H3 => r x l u H3 Q

theorem pe_slice {r : V → Option Int → Option Int → Hp → VK → Prop} (hr : SlR X r) (he : PE X e te) (hl : PO X lo tl) (hu : PO X hi th) : PE X (.Subscript e (.Slice lo hi none p2) pos) (tSl r te tl th) := by
  intro pins s σ H Q I h
  refine Subscript_ (thn (he pins s σ H _ I h) fun v s1 ⟨x, H1, I1, r1, q1⟩ => ?_)
  refine wpAny_Slice (thn (hl pins s1 σ H1 _ I1 q1) fun vl s2 ⟨l, H2, I2, pl, q2⟩ => thn (hu pins s2 σ H2 _ I2 q2) fun vu s3 ⟨u, H3, I3, pu, q3⟩ => ?_)
  rw [evalPart_none]
  refine wpAny_pure ?_
  have I4 : Inv X pins σ H3 { s3 with heap := s3.heap.push { cls := .type "slice", data := .fields #[vl, vu, .none] } } := I3.kept (t' := s3.toks) fun b ob q => Heap.get?_push_of_some _ q
  obtain ⟨T, id, hT, ht, hg⟩ := hr pins { s3 with heap := s3.heap.push { cls := .type "slice", data := .fields #[vl, vu, .none] } } σ H3 x v vl vu l u s3.heap.objs.size Q I4 r1 (Heap.IsSliceOf.new ..) pl pu q3
  show wpAny (model X.prog X.w) X.A (subscriptTail e (.Slice lo hi none p2) v (.ref s3.heap.objs.size)) (EP X pins σ Q) X.xe { s3 with heap := s3.heap.push { cls := .type "slice", data := .fields #[vl, vu, .none] } }
  exact tail_any (ops := [.ref s3.heap.objs.size, v]) ht hT hg (by with_unfolding_all rfl)


def cutV (xs : List V) (lo hi : Option Int) : List V := (xs.drop (HT.sIx xs.length 0 lo)).take (HT.sIx xs.length xs.length hi - HT.sIx xs.length 0 lo)
theorem cutV_length (xs : List V) (lo hi : Option Int) : (cutV xs lo hi).length ≤ xs.length := by
  unfold cutV
  rw [List.length_take, List.length_drop]
  omega

def rSlT (K : PySem.W.Frag) : V → Option Int → Option Int → Hp → VK → Prop := fun x lo hi H Q => ∃ a xs, x = .ref a ∧ SqT K H a xs ∧
  ¬ (HT.sIx xs.length 0 lo = 0 ∧ HT.sIx xs.length xs.length hi = xs.length) ∧ ∀ p, H p = none → Q (.ref p) (upd H p (.tup (cutV xs lo hi)))
theorem sl_tup : SlR X (rSlT X.K) := by
  intro pins s σ H x v vl vu lo hi sl Q I rx hs pl pu h
  obtain ⟨a, xs, rfl, hx, hw, q⟩ := h
  cases rx
  obtain ⟨its, r, ht, hz⟩ := I.tuple hx
  have hlen : its.toArray.size = xs.length := by rw [List.size_toArray]; exact r.length.symm
  refine ⟨"tuple", _, PyProof.Rows.slot_tuple_getitem.lookup, ht.typeIs, ?_⟩
  refine HT.getItem_tuple_cut ht hs pl pu (by rw [hlen]; exact hw) ?_ (by rw [hlen]; exact hz)
  rw [hlen]
  refine ⟨.ref s.heap.objs.size, _, I.laid (t' := s.toks) (o := .tup (cutV xs lo hi)) (fun b ob q => Heap.get?_push_of_some _ q) (Nat.le_refl _) ?_, rfl, q _ (I.hok.fresh (Nat.le_refl _))⟩
  exact ⟨Nat.le_trans (cutV_length xs lo hi) hz, _, (r.drop (HT.sIx xs.length 0 lo)).take (HT.sIx xs.length xs.length hi - HT.sIx xs.length 0 lo), IsTup.new _ _⟩


def rLtT (K : PySem.W.Frag) : R2 := fun x y H Q => ∃ a b ns ms, x = .ref a ∧ y = .ref b ∧ SqT K H a (ns.map V.int) ∧ SqT K H b (ms.map V.int) ∧ Q (.bl (HT.lexLt ns ms)) H
def rCatT (K : PySem.W.Frag) : R2 := fun x y H Q => ∃ a b xs ys, x = .ref a ∧ y = .ref b ∧ SqT K H a xs ∧ SqT K H b ys ∧ xs ≠ [] ∧ xs.length + ys.length ≤ sizeLine ∧
  (ys = [] → Q (.ref a) H) ∧ (ys ≠ [] → ∀ p, H p = none → Q (.ref p) (upd H p (.tup (xs ++ ys))))
end
end L2

namespace L2
open PySem PySem.Spec PyProof.Rows



def ixN (n : Nat) (i : Int) : Option Nat := if 0 ≤ i then (if i < n then some i.toNat else none) else if -(n : Int) ≤ i then some (i + n).toNat else none
def atI {α : Type} (xs : List α) (i : Int) : Option α := (ixN xs.length i).bind fun j => xs[j]?
theorem ixN_seq {n : Nat} {i : Int} {j : Nat} (h : ixN n i = some j) : seqIndex? i n = some j ∧ j < n ∧ -(n : Int) ≤ i ∧ i < n := by
  unfold ixN at h
  by_cases h0 : 0 ≤ i
  · rw [if_pos h0] at h
    by_cases h1 : i < n
    · rw [if_pos h1] at h
      have e : i.toNat = j := Option.some.inj h
      exact ⟨by rw [seqIndex_of h0 h1, e], by omega, by omega, h1⟩
    · rw [if_neg h1] at h; cases h
  · rw [if_neg h0] at h
    by_cases h1 : -(n : Int) ≤ i
    · rw [if_pos h1] at h
      have e : (i + n).toNat = j := Option.some.inj h
      exact ⟨by rw [seqIndex_neg (by omega) h1, e], by omega, h1, by omega⟩
    · rw [if_neg h1] at h; cases h
theorem atI_get {α : Type} {xs : List α} {i : Int} {v : α} (h : atI xs i = some v) : ∃ j, seqIndex? i xs.length = some j ∧ xs[j]? = some v ∧ j < xs.length ∧ -(xs.length : Int) ≤ i ∧ i < xs.length := by
  unfold atI at h
  cases e : ixN xs.length i with
  | none => rw [e] at h; cases h
  | some j =>
    rw [e] at h
    obtain ⟨h1, h2, h3, h4⟩ := ixN_seq e
    exact ⟨j, h1, h, h2, h3, h4⟩
theorem atI_nat {α : Type} {xs : List α} {j : Nat} {v : α} (h : xs[j]? = some v) : atI xs (j : Int) = some v := by
  have hj : j < xs.length := (List.getElem?_eq_some_iff.mp h).1
  have e : ixN xs.length (j : Int) = some j := by
    unfold ixN
    rw [if_pos (by omega), if_pos (by omega)]; simp
  unfold atI; rw [e]; exact h
theorem atI_last {α : Type} (xs : List α) (v : α) : atI (xs ++ [v]) (-1) = some v := by
  have hl : (xs ++ [v]).length = xs.length + 1 := by simp
  have e : ixN (xs ++ [v]).length (-1) = some xs.length := by
    unfold ixN
    rw [hl, if_neg (by decide), if_pos (by omega)]
    congr 1
    omega
  unfold atI
  rw [e]
  show (xs ++ [v])[xs.length]? = some v
  simp



def PlainIx (b : Expr) : Prop := ∀ o i, subscripted b false o i = operate [o, i] (getItem o i)

def IxR (X : Cx) (r : R2) : Prop :=
  ∀ (value slice : Expr) (pins : List (Addr × Obj)) (s : Shared) (σ : St) (H : Hp) (x y : V) (v u : Value) (Q : VK), Inv X pins σ H s → RelV x v → RelV y u → r x y H Q →
    subscripted slice false v u = operate [v, u] (getItem v u) → wpAny (model X.prog X.w) X.A (subscriptTail value slice v u) (EP X pins σ Q) X.xe s

def MtR (X : Cx) (id : String) (r : V → List V → Hp → VK → Prop) : Prop :=
  ∀ (pins : List (Addr × Obj)) (s : Shared) (σ : St) (H : Hp) (x : V) (xs : List V) (v : Value) (us : List Value) (Q : VK), Inv X pins σ H s → RelV x v → Vals xs us → r x xs H Q →
    wpAny (model X.prog X.w) X.A (call (.builtin id) (v :: us)) (EP X pins σ Q) X.xe s
section
variable {X : Cx} {a b : Expr} {ta tb : TE} {pos : Pos}
theorem pe_ix {r : R2} (hr : IxR X r) (ha : PE X a ta) (hb : PE X b tb) (hs : PlainIx b) : PE X (.Subscript a b pos) (tOp r ta tb) := by
  intro pins s σ H Q I h
  exact Subscript_ (binT ha hb I h fun v u s2 x y H2 I2 rx ry q => hr a b pins s2 σ H2 x y v u Q I2 rx ry q (hs _ _))

def rIxL (K : PySem.W.Frag) : R2 := fun x y H Q => ∃ p xs i v, x = .ref p ∧ y = .int i ∧ SqL K H p xs ∧ atI xs i = some v ∧ Q v H
def rIxT (K : PySem.W.Frag) : R2 := fun x y H Q => ∃ p xs i v, x = .ref p ∧ y = .int i ∧ SqT K H p xs ∧ atI xs i = some v ∧ Q v H
def rIxS : R2 := fun x y H Q => ∃ z i c, x = .str z ∧ y = .int i ∧ z.length ≤ sizeLine ∧ atI z.cps.toList i = some c ∧ Q (.str ⟨#[c]⟩) H
theorem ix_list : IxR X (rIxL X.K) := by
  intro value slice pins s σ H x y v u Q I rx ry h hs
  obtain ⟨p, xs, i, z, rfl, rfl, hq, he, q⟩ := h
  cases rx
  obtain ⟨t, rfl⟩ := ry
  obtain ⟨its, r, pl, hz⟩ := I.list hq
  obtain ⟨j, h1, h2, h3, h4, h5⟩ := atI_get he
  obtain ⟨w, ew, rw'⟩ := r.get h2
  have hl := r.length
  have hn := line63
  have fin : EP X pins σ Q w s := ⟨z, H, I, rw', q⟩
  by_cases h0 : 0 ≤ i
  · have hj : i.toNat = j := by
      rw [seqIndex_of h0 h5] at h1
      exact Option.some.inj h1
    exact item_listR pl.isList h0 (by omega) (by rw [hj]; simpa using ew) fin hs
  · have hj : (i + (its.toArray.size : Int)).toNat = j := by
      rw [seqIndex_neg (by omega) h4] at h1
      rw [List.size_toArray, ← hl]
      exact Option.some.inj h1
    exact subscriptTail_builtinR (x := w) pl.isList.typeIs slot_list_getitem.lookup
      (wpAny_getItem_list_neg (Q := fun r s' => r = w ∧ EP X pins σ Q r s') pl.isList (by omega) (by rw [List.size_toArray] <;> omega) (by omega) (by rw [hj]; simpa using ew) ⟨rfl, fin⟩) hs
theorem ix_tup : IxR X (rIxT X.K) := by
  intro value slice pins s σ H x y v u Q I rx ry h hs
  obtain ⟨p, xs, i, z, rfl, rfl, hq, he, q⟩ := h
  cases rx
  obtain ⟨t, rfl⟩ := ry
  obtain ⟨its, r, pl, hz⟩ := I.tuple hq
  obtain ⟨j, h1, h2, h3, h4, h5⟩ := atI_get he
  obtain ⟨w, ew, rw'⟩ := r.get h2
  have hl := r.length
  have hn := line63
  have fin : EP X pins σ Q w s := ⟨z, H, I, rw', q⟩
  exact subscriptTail_builtinR (x := w) pl.typeIs slot_tuple_getitem.lookup
    (getItem_tuple (j := j) (Q := fun r s' => r = w ∧ EP X pins σ Q r s') pl (by omega) (by omega) (by rw [List.size_toArray, ← hl]; exact h1) (by simpa using ew) ⟨rfl, fin⟩) hs
theorem ix_str : IxR X rIxS := by
  intro value slice pins s σ H x y v u Q I rx ry h hs
  obtain ⟨z, i, c, rfl, rfl, hz, he, q⟩ := h
  obtain ⟨t, rfl⟩ := rx
  obtain ⟨t', rfl⟩ := ry
  obtain ⟨j, h1, h2, h3, h4, h5⟩ := atI_get he
  have hl : z.cps.toList.length = z.length := by simp [Str.length]
  rw [hl] at h1 h4 h5
  have hn := line63
  exact tail_any (typeIs_str s z t) slot_str_getitem.lookup (getItem_str (c := c) (by
    have e1 : decide (i < -(2 ^ 63 : Int)) = false := decide_eq_false (by omega)
    have e2 : decide (i ≥ 2 ^ 63) = false := decide_eq_false (by omega)
    rw [e1, e2, Bool.or_false]) (by rw [h1]; simpa using h2) ⟨.str ⟨#[c]⟩, H, I.tok _, ⟨_, rfl⟩, q⟩) hs

def rIx (K : PySem.W.Frag) : R2 := fun x y H Q => rIxL K x y H Q ∨ rIxT K x y H Q ∨ rIxS x y H Q
theorem Inv.lst {pins : List (Addr × Obj)} {σ : St} {H : Hp} {s : Shared} {p : Addr} {xs : List V} (I : Inv X pins σ H s) (h : H p = some (.lst xs)) :
    ∃ (its : List Value) (n : Nat), Vals xs its ∧ s.heap.get? p = some { cls := .type "list", data := .seq its.toArray n } ∧ xs.length ≤ sizeLine := by
  obtain ⟨z, its, n, r, e⟩ := I.hok p _ h
  exact ⟨its, n, r, e, z⟩

def rSetL : V → V → V → Hp → (Hp → Prop) → Prop := fun o i v H Q => ∃ p xs k j, o = .ref p ∧ i = .int k ∧ H p = some (.lst xs) ∧ ixN xs.length k = some j ∧ Q (upd H p (.lst (xs.set j v)))
def rSlL (K : PySem.W.Frag) : V → Option Int → Option Int → Hp → VK → Prop := fun x lo hi H Q => ∃ a xs, x = .ref a ∧ SqL K H a xs ∧ ∀ p, H p = none → Q (.ref p) (upd H p (.lst (cutV xs lo hi)))
def flatV : V → Bool
  | .non => true
  | .bl _ => true
  | .int _ => true
  | .str _ => true
  | _ => false

def eqV : V → V → Bool
  | .non, .non => true
  | .bl a, .bl b => a == b
  | .bl a, .int b => (if a then 1 else 0) == b
  | .int a, .bl b => a == (if b then 1 else 0)
  | .int a, .int b => a == b
  | .str a, .str b => a == b
  | _, _ => false
theorem eqAt_V {A : Around} {s : Shared} {y x : V} {u v : Value} (ry : RelV y u) (rx : RelV x v) (fy : flatV y = true) (fx : flatV x = true) : SeqAt.EqAt A s u v (eqV y x) := by
  cases y with
  | non =>
    cases ry
    cases x with
    | non => cases rx; exact SeqAt.EqAt.same _
    | bl b => cases rx; exact SeqAt.EqAt.none_bool b
    | int b => obtain ⟨t, rfl⟩ := rx; exact SeqAt.EqAt.none_int b t
    | str b => obtain ⟨t, rfl⟩ := rx; exact SeqAt.EqAt.none_str b t
    | _ => exact absurd (show false = true from fx) Bool.false_ne_true
  | bl a =>
    cases ry
    cases x with
    | non => cases rx; exact SeqAt.EqAt.bool_none a
    | bl b => cases rx; exact SeqAt.EqAt.bool_bool a b
    | int b => obtain ⟨t, rfl⟩ := rx; exact SeqAt.EqAt.bool_int a b t
    | str b => obtain ⟨t, rfl⟩ := rx; exact SeqAt.EqAt.bool_str a b t
    | _ => exact absurd (show false = true from fx) Bool.false_ne_true
  | int a =>
    obtain ⟨t', rfl⟩ := ry
    cases x with
    | non => cases rx; exact SeqAt.EqAt.int_none a t'
    | bl b => cases rx; exact SeqAt.EqAt.int_bool a t' b
    | int b => obtain ⟨t, rfl⟩ := rx; exact SeqAt.EqAt.int_int a t' b t
    | str b => obtain ⟨t, rfl⟩ := rx; exact SeqAt.EqAt.int_str a t' b t
    | _ => exact absurd (show false = true from fx) Bool.false_ne_true
  | str a =>
    obtain ⟨t', rfl⟩ := ry
    cases x with
    | non => cases rx; exact SeqAt.EqAt.str_none a t'
    | bl b => cases rx; exact SeqAt.EqAt.str_bool a t' b
    | int b => obtain ⟨t, rfl⟩ := rx; exact SeqAt.EqAt.str_int a t' b t
    | str b => obtain ⟨t, rfl⟩ := rx; exact SeqAt.EqAt.str_str a t' b t
    | _ => exact absurd (show false = true from fx) Bool.false_ne_true
  | _ => exact absurd (show false = true from fy) Bool.false_ne_true

def eqU (x : V) (u : Value) : Bool := match u with
  | .none => eqV .non x
  | .bool b => eqV (.bl b) x
  | .int i _ => eqV (.int i) x
  | .str z _ => eqV (.str z) x
  | _ => false
theorem eqU_of {x y : V} {u : Value} (r : RelV y u) (f : flatV y = true) : eqU x u = eqV y x := by
  cases y with
  | non => cases r; rfl
  | bl b => cases r; rfl
  | int i => obtain ⟨t, rfl⟩ := r; rfl
  | str z => obtain ⟨t, rfl⟩ := r; rfl
  | _ => exact absurd (show false = true from f) Bool.false_ne_true
theorem any_eqU {x : V} : ∀ {xs : List V} {us : List Value}, Vals xs us → xs.all flatV = true → us.any (eqU x) = xs.any fun y => eqV y x
  | _, _, .nil, _ => rfl
  | y :: xs, u :: us, .cons r t, f => by
    rw [List.all_cons, Bool.and_eq_true] at f
    rw [List.any_cons, List.any_cons, eqU_of r f.1, any_eqU t f.2]
theorem mem_eqAt {A : Around} {s : Shared} {x : V} {v : Value} (rx : RelV x v) (fx : flatV x = true) : ∀ {xs : List V} {us : List Value}, Vals xs us → xs.all flatV = true → ∀ u ∈ us, SeqAt.EqAt A s u v (eqU x u)
  | _, _, .nil, _ => fun u hu => by cases hu
  | y :: xs, u :: us, .cons r t, f => fun u' hu => by
    rw [List.all_cons, Bool.and_eq_true] at f
    rcases List.mem_cons.mp hu with rfl | hu
    · rw [eqU_of r f.1]; exact eqAt_V r rx f.1 fx
    · exact mem_eqAt rx fx t f.2 u' hu
def inV (x : V) (xs : List V) : Bool := xs.any fun y => eqV y x

def rIn (K : PySem.W.Frag) (neg : Bool) : R2 := fun x y H Q => ∃ p xs, y = .ref p ∧ (SqL K H p xs ∨ SqT K H p xs) ∧ flatV x = true ∧ xs.all flatV = true ∧ Q (.bl (if neg then !inV x xs else inV x xs)) H
theorem op_notIn_seq : OpR X (compareOp .NotIn) (rIn X.K true) := by
  intro pins s σ H x y v u Q I rx ry h
  obtain ⟨p, xs, rfl, hq, fx, fs, q⟩ := h
  cases ry
  rcases hq with hq | hq
  · obtain ⟨its, r, pl, hz⟩ := I.list hq
    refine SeqAt.notIn_listAt (eqU x) pl.isList (fun w hw => mem_eqAt rx fx r fs w (by simpa using hw)) ⟨.bl _, H, I, rfl, ?_⟩
    rw [show its.toArray.any (eqU x) = its.any (eqU x) by simp, any_eqU r fs]
    exact q
  · obtain ⟨its, r, pl, hz⟩ := I.tuple hq
    refine SeqAt.notIn_tupleAt (eqU x) pl (fun w hw => mem_eqAt rx fx r fs w (by simpa using hw)) ⟨.bl _, H, I, rfl, ?_⟩
    rw [show its.toArray.any (eqU x) = its.any (eqU x) by simp, any_eqU r fs]
    exact q
theorem call_len_seq : CallR X (.builtin "len") (fun xs H Q => ∃ p ys, xs = [.ref p] ∧ (SqL X.K H p ys ∨ SqT X.K H p ys) ∧ Q (.int ys.length) H) := by
  intro pins s σ H xs us Q I r h
  obtain ⟨p, ys, rfl, hq, q⟩ := h
  obtain ⟨u, rfl, rx⟩ := vals1 r
  cases rx
  have hn := line63
  rcases hq with hq | hq
  · obtain ⟨its, r', pl, hz⟩ := I.list hq
    have hlen := r'.length
    exact Calls.call_len_list pl.isList (by simp only [List.size_toArray] <;> omega) ⟨.int ys.length, H, I.tok _, ⟨s.toks + 1, by rw [List.size_toArray, hlen]⟩, q⟩
  · obtain ⟨its, r', pl, hz⟩ := I.tuple hq
    have hlen := r'.length
    exact len_tuple pl (by simp only [List.size_toArray] <;> omega) ⟨.int ys.length, H, I.tok _, ⟨s.toks + 1, by rw [List.size_toArray, hlen]⟩, q⟩
theorem call_len_str : CallR X (.builtin "len") (fun xs H Q => ∃ z, xs = [.str z] ∧ z.length ≤ sizeLine ∧ Q (.int z.length) H) := by
  intro pins s σ H xs us Q I r h
  obtain ⟨z, rfl, hz, q⟩ := h
  obtain ⟨u, rfl, t, rfl⟩ := vals1 r
  have hn := line63
  exact len_str (by omega) ⟨.int z.length, H, I.tok _, ⟨_, rfl⟩, q⟩
theorem call_list_of : CallR X (.type "list") (fun xs H Q => ∃ p ys, xs = [.ref p] ∧ (SqL X.K H p ys ∨ SqT X.K H p ys) ∧ ∀ l, H l = none → Q (.ref l) (upd H l (.lst ys))) := by
  intro pins s σ H xs us Q I r h
  obtain ⟨p, ys, rfl, hq, q⟩ := h
  obtain ⟨u, rfl, rx⟩ := vals1 r
  cases rx
  have fin : ∀ (its : List Value), Vals ys its → ys.length ≤ sizeLine → ∀ (h' : Heap) (c' : Nat), (∀ b o', s.heap.get? b = some o' → h'.get? b = some o') →
      h'.get? s.heap.objs.size = some { cls := .type "list", dict := none, data := .seq its.toArray c', slots := #[] } → EP X pins σ Q (.ref s.heap.objs.size) { s with heap := h' } := fun its r' hz h' c' kp e =>
    ⟨.ref s.heap.objs.size, _, I.laid (t' := s.toks) kp (Nat.le_refl _) (show ObjOk X.prog X.w _ h' _ (.lst ys) from ⟨hz, its, c', r', e⟩), rfl, q _ (I.hok.fresh (Nat.le_refl _))⟩
  rcases hq with hq | hq
  · obtain ⟨its, r', pl, hz⟩ := I.list hq
    have hlen := r'.length
    obtain ⟨o, ho, hc, n, hd⟩ := pl.isList
    exact call_list_seq p (.inl rfl) ho hc hd (fun h' c' kp e => fin its r' hz h' c' kp e) (by simp only [List.size_toArray] <;> omega)
  · obtain ⟨its, r', pl, hz⟩ := I.tuple hq
    have hlen := r'.length
    obtain ⟨o, ho, hc, n, hd⟩ := pl
    exact call_list_seq p (.inr rfl) ho hc hd (fun h' c' kp e => fin its r' hz h' c' kp e) (by simp only [List.size_toArray] <;> omega)
theorem call_tuple_of : CallR X (.type "tuple") (fun xs H Q => ∃ p ys, xs = [.ref p] ∧ ((SqL X.K H p ys ∧ ∀ l, H l = none → Q (.ref l) (upd H l (.tup ys))) ∨ (SqT X.K H p ys ∧ Q (.ref p) H))) := by
  intro pins s σ H xs us Q I r h
  obtain ⟨p, ys, rfl, h⟩ := h
  obtain ⟨u, rfl, rx⟩ := vals1 r
  cases rx
  rcases h with ⟨hq, q⟩ | ⟨hq, q⟩
  · obtain ⟨its, r', pl, hz⟩ := I.list hq
    have hlen := r'.length
    refine call_tuple_list pl.isList (fun h' kp => ?_) (by simp only [List.size_toArray] <;> omega)
    have I1 : Inv X pins σ H { s with heap := h' } := I.kept (t' := s.toks) kp
    have I2 : Inv X pins σ (upd H h'.objs.size (.tup ys)) { s with heap := h'.push { cls := .type "tuple", data := .seq its.toArray } } :=
      I1.laid (t' := s.toks) (fun b o e => Heap.get?_push_of_some _ e) (Nat.le_refl _) (show ObjOk X.prog X.w _ _ _ (.tup ys) from ⟨hz, its, r', IsTup.new _ _⟩)
    exact ⟨.ref h'.objs.size, _, I2, rfl, q _ (I1.hok.fresh (Nat.le_refl _))⟩
  · obtain ⟨its, r', pl, hz⟩ := I.tuple hq
    exact call_tuple_same pl ⟨.ref p, H, I, rfl, q⟩



def tyV (K : PySem.W.Frag) (T : String) (x : V) (H : Hp) : Prop := match x with
  | .str _ => T = "str"
  | .int _ => T = "int"
  | .ref p => (T = "list" ∧ ∃ xs, SqL K H p xs) ∨ (T = "tuple" ∧ ∃ o, K.lookup p = some o ∧ o.cls = .type "tuple" ∧ o.dict = none) ∨
      (T = "dict" ∧ ((∃ kvs, H p = some (.dK kvs)) ∨ ∃ kvs, H p = some (.dT kvs))) ∨ (T = "set" ∧ ∃ S n, H p = some (.set S n))
  | _ => False
theorem tyV_is {pins : List (Addr × Obj)} {σ : St} {H : Hp} {s : Shared} {T : String} {x : V} {v : Value} (I : Inv X pins σ H s) (r : RelV x v) (ty : tyV X.K T x H) :
    s.TypeIs v T ∧ ∀ a, v = .ref a → ∃ ob, s.heap.get? a = some ob ∧ ob.dict = none := by
  cases x with
  | str z =>
    obtain ⟨t, rfl⟩ := r
    cases (show T = "str" from ty)
    exact ⟨typeIs_str s z t, fun _ e => nomatch e⟩
  | int i =>
    obtain ⟨t, rfl⟩ := r
    cases (show T = "int" from ty)
    exact ⟨typeIs_int s i t, fun _ e => nomatch e⟩
  | ref p =>
    cases r
    rcases ty with ⟨rfl, xs, hq⟩ | ⟨rfl, o, hk, hc, hd⟩ | ⟨rfl, hk⟩ | ⟨rfl, S, n, hk⟩
    · obtain ⟨its, _, pl, _⟩ := I.list hq
      refine ⟨pl.isList.typeIs, fun a e => ?_⟩
      cases e
      obtain ⟨o, n, e, c, hd, _⟩ := pl
      exact ⟨o, e, hd⟩
    · refine ⟨⟨o, I.kIn p o hk, hc⟩, fun a e => ?_⟩
      cases e
      exact ⟨o, I.kIn _ o hk, hd⟩
    · have z : ∃ o, s.heap.get? p = some o ∧ o.ExactDict := by
        rcases hk with ⟨kvs, hk⟩ | ⟨kvs, hk⟩
        · obtain ⟨_, _, _, _, o, _, _, e, ex, _⟩ := I.hok p _ hk
          exact ⟨o, e, ex⟩
        · obtain ⟨_, _, _, _, o, _, _, e, ex, _⟩ := I.hok p _ hk
          exact ⟨o, e, ex⟩
      obtain ⟨o, e, ex⟩ := z
      refine ⟨⟨o, e, ex.1⟩, fun a e2 => ?_⟩
      cases e2
      exact ⟨o, e, ex.2.1⟩
    · obtain ⟨o, _, _, _, e, ex, _⟩ := I.hok p _ hk
      refine ⟨⟨o, e, ex.1⟩, fun a e2 => ?_⟩
      cases e2
      exact ⟨o, e, ex.2.1⟩
  | _ => exact False.elim ty
def tBM0 (K : PySem.W.Frag) (T : String) (r : V → List V → Hp → VK → Prop) (to : TE) : TE := fun σ H Q => to σ H fun x H1 => tyV K T x H1 ∧ r x [] H1 Q
def tBM (K : PySem.W.Frag) (T : String) (r : V → List V → Hp → VK → Prop) (to : TE) (t : TA) : TE := fun σ H Q => to σ H fun x H1 => tyV K T x H1 ∧ t σ H1 fun xs H2 => r x xs H2 Q
variable {o e : Expr} {es : List Expr} {to : TE} {t : TA} {name : Str} {apos cpos : Pos} {T id : String} {r : V → List V → Hp → VK → Prop}
theorem pe_bm0 (pa : PlainAttrs T) (slot : Slot T name id) (hty : typeOf (.builtin id) = pure (.type "method_descriptor")) (hm : MtR X id r) (ho : PE X o to)
    (hbase : attributeBase o name X.env (eval o X.env) = eval o X.env := by rfl) (hline : (apos.endLine == cpos.line) = true := by rfl) : PE X (.Call (.Attribute o name apos) [] [] cpos) (tBM0 X.K T r to) := by
  intro pins s σ H Q I h
  refine wpAny_Call_method0_late hbase hline (thn (ho pins s σ H _ I h) fun v s1 ⟨x, H1, I1, r1, ty, q1⟩ => ?_)
  obtain ⟨h1, h2⟩ := tyV_is I1 r1 ty
  exact ⟨T, id, pa, slot, hty, h1, h2, Calls.callWith_builtin rfl (PySem.evalArgs_none (hm pins s1 σ H1 x [] v [] Q I1 r1 .nil q1))⟩
theorem pe_bm (pa : PlainAttrs T) (slot : Slot T name id) (hty : typeOf (.builtin id) = pure (.type "method_descriptor")) (hm : MtR X id r) (ho : PE X o to) (ha : PA X (e :: es) t)
    (hbase : attributeBase o name X.env (eval o X.env) = eval o X.env := by rfl)
    (hfew : ((backTo cpos (starEach (e :: es) X.env)).all (fun x => !x.1) && (backToKw cpos (keywordEach [] X.env)).all (fun x => x.1.isSome)
      && decide ((e :: es).length + ([] : List Keyword).length + (if ([] : List Keyword).isEmpty then 0 else 1) < 30)) = true := by rfl)
    (hline : (apos.endLine == cpos.line) = true := by rfl) (hs : starEach (e :: es) X.env = (false, eval e X.env) :: starEach es X.env := by rfl) (hplain : (backTo cpos (starEach es X.env)).any (·.1) = false := by rfl) :
    PE X (.Call (.Attribute o name apos) (e :: es) [] cpos) (tBM X.K T r to t) := by
  intro pins s σ H Q I h
  refine wpAny_Call_method_late hbase hfew hline rfl (thn (ho pins s σ H _ I h) fun v s1 ⟨x, H1, I1, r1, ty, q1⟩ => ?_)
  obtain ⟨h1, h2⟩ := tyV_is I1 r1 ty
  refine ⟨T, id, pa, slot, hty, h1, h2, ?_⟩
  have hA := ha cpos pins s1 σ H1 _ I1 q1
  rw [hs] at hA ⊢
  refine Calls.callWith_builtin (by show (false || (backTo cpos (starEach es X.env)).any (·.1)) = false; rw [hplain] <;> rfl) (Calls.evalArgs_plain ?_)
  exact thn hA fun us s2 ⟨vs, H2, I2, r2, q2⟩ => hm pins s2 σ H2 x vs v us Q I2 r1 r2 q2

end
end L2

namespace L2
open PySem PySem.Spec PyProof.Rows

def MtM (X : Cx) (id : String) (r : V → List V → Hp → VK → Prop) : Prop :=
  ∀ (pins : List (Addr × Obj)) (s : Shared) (σ : St) (H : Hp) (x : V) (xs : List V) (v : Value) (us : List Value) (Q : VK), Inv X pins σ H s → RelV x v → Vals xs us → r x xs H Q →
    wpAny (model X.prog X.w) X.A (call (.builtin id) (v :: us)) (EP X pins σ Q) X.xe s


theorem Vals.one : ∀ {x : V} {us : List Value}, Vals [x] us → ∃ u, us = [u] ∧ RelV x u
  | _, _, .cons r .nil => ⟨_, rfl, r⟩
theorem Vals.zero : ∀ {us : List Value}, Vals [] us → us = []
  | _, .nil => rfl
theorem Vals.dropLast {xs : List V} {us : List Value} (h : Vals xs us) : Vals xs.dropLast us.dropLast := by
  induction h with
  | nil => exact .nil
  | cons r t ih =>
    cases t with
    | nil => exact .nil
    | cons q t' => exact .cons r ih
theorem Vals.eraseIdx : ∀ {xs : List V} {us : List Value} (i : Nat), Vals xs us → Vals (xs.eraseIdx i) (us.eraseIdx i)
  | _, _, _, .nil => .nil
  | _, _, 0, .cons _ t => t
  | _, _, i + 1, .cons r t => .cons r (Vals.eraseIdx i t)
theorem Vals.reverse {xs : List V} {us : List Value} (h : Vals xs us) : Vals xs.reverse us.reverse := by
  induction h with
  | nil => exact .nil
  | cons r t ih => rw [List.reverse_cons, List.reverse_cons]; exact Vals.append ih (.cons r .nil)
theorem erase_last {α : Type} (l : List α) : l.eraseIdx (l.length - 1) = l.dropLast := by
  induction l with
  | nil => rfl
  | cons a r ih =>
    cases r with
    | nil => rfl
    | cons b r =>
      have e : (a :: b :: r).length - 1 = ((b :: r).length - 1) + 1 := by
        have h1 : (a :: b :: r).length = r.length + 2 := rfl
        have h2 : (b :: r).length = r.length + 1 := rfl
        omega
      rw [e, List.eraseIdx_cons_succ, ih]
      all_goals rfl
section
variable {X : Cx} {pins : List (Addr × Obj)} {σ : St} {H : Hp} {s : Shared} {l b : Addr} {xs ys zs : List V}


theorem Inv.lset {its its' : List Value} {n : Nat} {f : Array Value → Array Value} {t' : Nat} (I : Inv X pins σ H s) (hH : H l = some (.lst xs))
    (e : s.heap.get? l = some { cls := .type "list", data := .seq its.toArray n }) (hf : f its.toArray = its'.toArray) (hv : Vals ys its') (hz : ys.length ≤ sizeLine) :
    Inv X pins σ (upd H l (.lst ys)) { s with heap := s.heap.update l (Obj.mapSeq f), toks := t' } := by
  have q := PySem.IsL.update e f
  rw [hf] at q
  refine I.write (x := l) (e := l) (by rw [hH]; exact trivial) (.inl rfl) (fun b' u hb hu => (Heap.get?_update_other s.heap (Obj.mapSeq f) (Ne.symm hb)).trans hu) ⟨_, q⟩ ?_
  exact ⟨hz, its', _, hv, q⟩
theorem Inv.lnew {its : List Value} {t' : Nat} (I : Inv X pins σ H s) (hv : Vals ys its) (hz : ys.length ≤ sizeLine) :
    Inv X pins σ (upd H s.heap.objs.size (.lst ys)) { s with heap := s.heap.push { cls := .type "list", data := .seq its.toArray }, toks := t' } :=
  I.laid (fun _ _ q => Heap.get?_push_of_some _ q) (Nat.le_refl _) ⟨hz, its, 0, hv, Heap.get?_push_size _ rfl⟩
theorem Inv.fresh (I : Inv X pins σ H s) : H s.heap.objs.size = none := I.hok.fresh (Nat.le_refl _)
theorem Inv.lstM (I : Inv X pins σ H s) (hH : H l = some (.lst xs)) : xs.length ≤ sizeLine ∧ ∃ (its : List Value) (n : Nat), Vals xs its ∧ xs.length = its.length ∧ s.heap.get? l = some { cls := .type "list", data := .seq its.toArray n } := by
  obtain ⟨z, its, n, r, e⟩ := I.hok l _ hH
  exact ⟨z, its, n, r, r.length, e⟩

theorem notLongL {n : Nat} (h : n ≤ sizeLine) : Builtin.List.listTooLong n = false := by
  unfold Builtin.List.listTooLong
  exact decide_eq_false (by omega)
end

section
variable {X : Cx}


def rAppend : V → List V → Hp → VK → Prop := fun x vs H Q => ∃ l xs y, x = .ref l ∧ vs = [y] ∧ H l = some (.lst xs) ∧ xs.length < sizeLine ∧ Q .non (upd H l (.lst (xs ++ [y])))
theorem mt_append : MtM X "list.append" rAppend := by
  intro pins s σ H x vs v us Q I rx rv h
  obtain ⟨l, xs, y, rfl, rfl, hH, hz, q⟩ := h
  cases rx
  obtain ⟨u, rfl, ru⟩ := rv.one
  obtain ⟨z, its, n, r, hl, e⟩ := I.lstM hH
  refine call_meets F.slot_list_append ⟨_, e, rfl⟩ F.entry_list_append (F.args_list_append_2 _ _) (PySem.list_append l its.toArray n u (by rw [List.size_toArray]; omega)) ⟨e, ?_⟩
  refine ⟨.non, _, I.lset (its' := its ++ [u]) hH e (by simp) (r.append (.cons ru .nil)) ?_, rfl, q⟩
  rw [List.length_append, List.length_singleton]
  omega

def rExtend : V → List V → Hp → VK → Prop := fun x vs H Q => ∃ l b xs zs, x = .ref l ∧ vs = [.ref b] ∧ H l = some (.lst xs) ∧ H b = some (.lst zs) ∧ xs.length + zs.length ≤ sizeLine ∧ Q .non (upd H l (.lst (xs ++ zs)))
theorem mt_extend : MtM X "list.extend" rExtend := by
  intro pins s σ H x vs v us Q I rx rv h
  obtain ⟨l, b, xs, zs, rfl, rfl, hH, hB, hz, q⟩ := h
  cases rx
  obtain ⟨u, rfl, ru⟩ := rv.one
  cases ru
  obtain ⟨z, its, n, r, hl, e⟩ := I.lstM hH
  obtain ⟨z2, its2, n2, r2, hl2, e2⟩ := I.lstM hB
  have hsz : its.toArray.size + its2.toArray.size ≤ sizeLine := by rw [List.size_toArray, List.size_toArray]; omega
  have hlong : ¬ (!its.toArray.isEmpty && Builtin.List.listTooLong (its.toArray.size + its2.toArray.size)) = true := by
    rw [notLongL hsz, Bool.and_false]
    exact Bool.false_ne_true
  refine call_meets F.slot_list_extend ⟨_, e, rfl⟩ F.entry_list_extend (F.args_list_extend_2 _ _)
    (AutoSeq1.list_extend_list_list_0 l its.toArray n b its2.toArray n2 hlong (by rw [List.size_toArray]; omega) (by omega)) ⟨e, e2, ?_⟩
  refine ⟨.non, _, I.lset (its' := its ++ its2) hH e (by simp) (r.append r2) ?_, rfl, q⟩
  rw [List.length_append]
  omega

def rPop : V → List V → Hp → VK → Prop := fun x vs H Q => ∃ l xs y, x = .ref l ∧ vs = [] ∧ H l = some (.lst xs) ∧ xs[xs.length - 1]? = some y ∧ Q y (upd H l (.lst xs.dropLast))
theorem mt_pop : MtM X "list.pop" rPop := by
  intro pins s σ H x vs v us Q I rx rv h
  obtain ⟨l, xs, y, rfl, rfl, hH, hy, q⟩ := h
  cases rx
  have hus := rv.zero
  subst hus
  obtain ⟨z, its, n, r, hl, e⟩ := I.lstM hH
  obtain ⟨u, hu, ru⟩ := r.get hy
  have hy' : its.toArray[its.toArray.size - 1]? = some u := by
    show its.toArray[its.length - 1]? = some u
    rw [← Array.getElem?_toList, ← hl]
    exact hu
  refine call_meets F.slot_list_pop ⟨_, e, rfl⟩ F.entry_list_pop (F.args_list_pop_1 _) (MeetsSeq.list_pop_last l its.toArray n u hy' (by rw [List.size_toArray]; omega)) ⟨e, ?_⟩
  refine ⟨y, _, I.lset (its' := its.dropLast) hH e ?_ r.dropLast ?_, ru, q⟩
  · show its.toArray.eraseIdxIfInBounds (its.toArray.size - 1) = its.dropLast.toArray
    rw [List.size_toArray, List.eraseIdxIfInBounds_toArray, erase_last]
  · rw [List.length_dropLast]
    omega

def rPopAt : V → List V → Hp → VK → Prop := fun x vs H Q => ∃ l xs i k y, x = .ref l ∧ vs = [.int i] ∧ H l = some (.lst xs) ∧ -(2 ^ 63) ≤ i ∧ i < 2 ^ 63 ∧ seqIndex? i xs.length = some k ∧ xs[k]? = some y ∧ Q y (upd H l (.lst (xs.eraseIdx k)))
def rReverse : V → List V → Hp → VK → Prop := fun x vs H Q => ∃ l xs, x = .ref l ∧ vs = [] ∧ H l = some (.lst xs) ∧ Q .non (upd H l (.lst xs.reverse))
def rClear : V → List V → Hp → VK → Prop := fun x vs H Q => ∃ l xs, x = .ref l ∧ vs = [] ∧ H l = some (.lst xs) ∧ Q .non (upd H l (.lst []))
def rCat : R2 := fun x y H Q => ∃ l b xs zs, x = .ref l ∧ y = .ref b ∧ H l = some (.lst xs) ∧ H b = some (.lst zs) ∧ xs.length + zs.length ≤ sizeLine ∧ ∀ p, H p = none → Q (.ref p) (upd H p (.lst (xs ++ zs)))
theorem op_cat : OpR X (binaryOp .Add) rCat := by
  intro pins s σ H x y v u Q I rx ry h
  obtain ⟨l, b, xs, zs, rfl, rfl, hH, hB, hz, q⟩ := h
  cases rx
  cases ry
  obtain ⟨z, its, n, r, hl, e⟩ := I.lstM hH
  obtain ⟨z2, its2, n2, r2, hl2, e2⟩ := I.lstM hB
  refine PySem.P.add_list e e2 ?_ (by rw [List.size_toArray, List.size_toArray]; omega)
  have ea : its.toArray ++ its2.toArray = (its ++ its2).toArray := by simp
  rw [ea]
  exact ⟨.ref _, _, I.lnew (t' := s.toks) (r.append r2) (by rw [List.length_append]; omega), rfl, q _ I.fresh⟩

def rRep : R2 := fun x y H Q => ∃ l k xs, x = .ref l ∧ y = .int k ∧ H l = some (.lst xs) ∧ -(2 ^ 63) ≤ k ∧ k < 2 ^ 63 ∧ xs.length * k.toNat ≤ sizeLine ∧
  ∀ p, H p = none → Q (.ref p) (upd H p (.lst (List.replicate k.toNat xs).flatten))
end


section
variable {prog : Program} {w : World} {A : Around} {E : Value → Shared → Prop} {s : Shared}
set_option maxRecDepth 100000 in

end

section
variable {X : Cx}

end
end L2

namespace L2
open PySem PySem.Spec PyProof.Rows


section
variable {κ : Type} [DecidableEq κ]
def valV (kvs : List (κ × V)) (k : κ) : Option V := (kvs.find? fun kv => decide (kv.1 = k)).map (·.2)

def putK (kvs : List (κ × V)) (k : κ) (v : V) : List (κ × V) :=
  if (kvs.any fun kv => decide (kv.1 = k)) = true then kvs.map (fun kv => if kv.1 = k then (kv.1, v) else kv) else kvs ++ [(k, v)]
def dropK (kvs : List (κ × V)) (k : κ) : List (κ × V) := kvs.filter fun kv => decide (kv.1 ≠ k)

theorem valV_pos {p : κ × V} {r : List (κ × V)} {k : κ} (e : p.1 = k) : valV (p :: r) k = some p.2 := by simp [valV, List.find?_cons, e]
theorem valV_neg {p : κ × V} {r : List (κ × V)} {k : κ} (e : ¬ p.1 = k) : valV (p :: r) k = valV r k := by simp [valV, List.find?_cons, e]
theorem valV_any (k : κ) : ∀ kvs : List (κ × V), (kvs.any fun kv => decide (kv.1 = k)) = (valV kvs k).isSome
  | [] => rfl
  | p :: r => by
    rw [List.any_cons]
    by_cases e : p.1 = k
    · simp only [valV_pos e, decide_eq_true e, Bool.true_or, Option.isSome_some]
    · rw [valV_neg e, decide_eq_false e, Bool.false_or]; exact valV_any k r
theorem length_putK (kvs : List (κ × V)) (k : κ) (v : V) : (putK kvs k v).length ≤ kvs.length + 1 := by
  unfold putK
  split
  · rw [List.length_map]; omega
  · rw [List.length_append, List.length_cons, List.length_nil]; omega
theorem putK_new {kvs : List (κ × V)} {k : κ} (v : V) (h : valV kvs k = none) : putK kvs k v = kvs ++ [(k, v)] := by
  unfold putK
  rw [valV_any, h]
  exact if_neg (by decide)

theorem RelO.isSome_eq {o : Option V} {u : Option Value} (r : RelO o u) : o.isSome = u.isSome := by
  cases o with
  | none => cases u with
    | none => rfl
    | some _ => exact (show False from r).elim
  | some _ => cases u with
    | none => exact (show False from r).elim
    | some _ => rfl
theorem RelO.getD {o : Option V} {u : Option Value} {d : V} {d' : Value} (r : RelO o u) (rd : RelV d d') : RelV (o.getD d) (u.getD d') := by
  cases o with
  | none => cases u with
    | none => exact rd
    | some _ => exact (show False from r).elim
  | some _ => cases u with
    | none => exact (show False from r).elim
    | some _ => exact r


theorem KV.val {kvs : List (κ × V)} {vs : List (κ × Value)} (r : KV kvs vs) (k : κ) : RelO (valV kvs k) (valueAt vs k) := by
  unfold KV at r
  induction r with
  | nil => exact True.intro
  | @cons p q ps qs h t ih =>
    obtain ⟨h1, h2⟩ := h
    by_cases e : p.1 = k
    · have e' : q.1 = k := h1.symm.trans e
      have b : valueAt (q :: qs) k = some q.2 := by simp [valueAt, List.find?_cons, e']
      rw [valV_pos e, b]; exact h2
    · have e' : ¬ q.1 = k := fun z => e (h1.trans z)
      have b : valueAt (q :: qs) k = valueAt qs k := by simp [valueAt, List.find?_cons, e']
      rw [valV_neg e, b]; exact ih
theorem KV.any {kvs : List (κ × V)} {vs : List (κ × Value)} (r : KV kvs vs) (k : κ) : (kvs.any fun kv => decide (kv.1 = k)) = vs.any fun kv => decide (kv.1 = k) := by
  unfold KV at r
  induction r with
  | nil => rfl
  | cons h t ih => rw [List.any_cons, List.any_cons, ih, h.1]
theorem KV.repl {kvs : List (κ × V)} {vs : List (κ × Value)} (r : KV kvs vs) (k : κ) {y : V} {u : Value} (ry : RelV y u) :
    KV (kvs.map fun kv => if kv.1 = k then (kv.1, y) else kv) (vs.map fun kv => if kv.1 = k then (kv.1, u) else kv) := by
  unfold KV at r ⊢
  induction r with
  | nil => exact .nil
  | @cons p q ps qs h t ih =>
    rw [List.map_cons, List.map_cons]
    refine .cons ?_ ih
    obtain ⟨h1, h2⟩ := h
    by_cases e : p.1 = k
    · rw [if_pos e, if_pos (h1.symm.trans e)]; exact ⟨h1, ry⟩
    · rw [if_neg e, if_neg (fun z => e (h1.trans z))]; exact ⟨h1, h2⟩
theorem KV.put {kvs : List (κ × V)} {vs : List (κ × Value)} (r : KV kvs vs) (k : κ) {y : V} {u : Value} (ry : RelV y u) : KV (putK kvs k y) (stored vs k u) := by
  unfold putK stored
  rw [r.any k]
  by_cases e : (vs.any fun kv => decide (kv.1 = k)) = true
  · rw [if_pos e, if_pos e]; exact r.repl k ry
  · rw [if_neg e, if_neg e]; exact Paired.snoc r ⟨rfl, ry⟩
theorem KV.drop {kvs : List (κ × V)} {vs : List (κ × Value)} (r : KV kvs vs) (k : κ) : KV (dropK kvs k) (without vs k) := by
  unfold KV at r ⊢
  unfold dropK without
  induction r with
  | nil => exact .nil
  | @cons p q ps qs h t ih =>
    obtain ⟨h1, h2⟩ := h
    rw [List.filter_cons, List.filter_cons]
    by_cases e : p.1 = k
    · have a : ¬ decide (p.1 ≠ k) = true := by simp [e]
      have b : ¬ decide (q.1 ≠ k) = true := by simp [h1.symm.trans e]
      rw [if_neg a, if_neg b]; exact ih
    · have e' : ¬ q.1 = k := fun z => e (h1.trans z)
      have a : decide (p.1 ≠ k) = true := by simp [e]
      have b : decide (q.1 ≠ k) = true := by simp [e']
      rw [if_pos a, if_pos b]; exact .cons ⟨h1, h2⟩ ih
theorem KV.keys {kvs : List (κ × V)} {vs : List (κ × Value)} (r : KV kvs vs) : kvs.map (·.1) = vs.map (·.1) := by
  unfold KV at r
  induction r with
  | nil => rfl
  | cons h t ih => rw [List.map_cons, List.map_cons, ih, h.1]
theorem KV.length {kvs : List (κ × V)} {vs : List (κ × Value)} (r : KV kvs vs) : kvs.length = vs.length := Paired.length r
end



theorem kV_is {P : Program} {w : World} {k : Key} {u : Value} (r : RelV (kV k) u) : (mixKind P w).is k u = true := by
  cases k with
  | inl i => obtain ⟨t, e⟩ := (show ∃ t, u = Value.int i t from r); subst e; exact mixKind_int P w i t
  | inr x => obtain ⟨t, e⟩ := (show ∃ t, u = Value.str x t from r); subst e; exact mixKind_str P w x t
theorem items_are {P : Program} {w : World} : ∀ {ks : List Key} {us : List Value}, Vals (ks.map kV) us → ItemsAre (mixKind P w) ks us
  | [], _, r => by rw [List.map_nil] at r; cases r; exact .nil
  | k :: ks, _, r => by
    rw [List.map_cons] at r
    cases r with
    | cons h t => exact .cons (kV_is h) (items_are t)


abbrev KT (H : Hp) : List (List Key × V) → List (List Key × Addr × Value) → Prop := Paired fun p q => p.1 = q.1 ∧ H q.2.1 = some (.tup (p.1.map kV)) ∧ RelV p.2 q.2.2
theorem KT.val {H : Hp} {kvs : List (List Key × V)} {xs : List (List Key × Addr × Value)} (r : KT H kvs xs) (k : List Key) : RelO (valV kvs k) ((atKey xs k).map (·.2)) := by
  induction r with
  | nil => exact True.intro
  | @cons p q ps qs h t ih =>
    obtain ⟨h1, _, h2⟩ := h
    by_cases e : p.1 = k
    · have e' : q.1 = k := h1.symm.trans e
      have b : atKey (q :: qs) k = some q.2 := by simp [atKey, List.find?_cons, e']
      rw [valV_pos e, b]; exact h2
    · have e' : ¬ q.1 = k := fun z => e (h1.trans z)
      have b : atKey (q :: qs) k = atKey qs k := by simp [atKey, List.find?_cons, e']
      rw [valV_neg e, b]; exact ih
theorem KT.repl {H : Hp} {kvs : List (List Key × V)} {xs : List (List Key × Addr × Value)} (r : KT H kvs xs) (k : List Key) {y : V} {u : Value} (ry : RelV y u) :
    KT H (kvs.map fun kv => if kv.1 = k then (kv.1, y) else kv) (xs.map (putAt k u)) := by
  induction r with
  | nil => exact .nil
  | @cons p q ps qs h t ih =>
    rw [List.map_cons, List.map_cons]
    refine .cons ?_ ih
    obtain ⟨h1, h2, h3⟩ := h
    unfold putAt
    by_cases e : p.1 = k
    · rw [if_pos e, if_pos (h1.symm.trans e)]; exact ⟨h1, h2, ry⟩
    · rw [if_neg e, if_neg (fun z => e (h1.trans z))]; exact ⟨h1, h2, h3⟩
theorem KT.put {H : Hp} {kvs : List (List Key × V)} {xs : List (List Key × Addr × Value)} (r : KT H kvs xs) (k : List Key) {b : Addr} {y : V} {u : Value} (hb : H b = some (.tup (k.map kV))) (ry : RelV y u) :
    KT H (putK kvs k y) (storedH xs k b u) := by
  have e : (kvs.any fun kv => decide (kv.1 = k)) = (atKey xs k).isSome := by
    rw [valV_any, (r.val k).isSome_eq, Option.isSome_map]
  unfold putK storedH
  rw [e]
  by_cases q : (atKey xs k).isSome = true
  · rw [if_pos q, if_pos q]; exact r.repl k ry
  · rw [if_neg q, if_neg q]; exact Paired.snoc r ⟨rfl, hb, ry⟩
theorem KT.keeps {H H' : Hp} {kvs : List (List Key × V)} {xs : List (List Key × Addr × Value)} (r : KT H kvs xs) (ht : ∀ b ys, H b = some (.tup ys) → H' b = some (.tup ys)) : KT H' kvs xs :=
  Paired.mapP r fun _ _ z => ⟨z.1, ht _ _ z.2.1, z.2.2⟩

section
variable {P : Program} {w : World} {H : Hp} {h : Heap} {a : Addr}
theorem rd_of {u : HO} (ok : HOk P w H h) (e : Rd H a u) : ObjOk P w H h a u := e.ok ok
theorem dk_rd {kvs : List (Key × V)} (ok : HOk P w H h) (e : Rd H a (.dK kvs)) : kvs.length ≤ sizeLine ∧ (a == sysModules) = false ∧ ∃ vs, KV kvs vs ∧ h.DictOf (mixKind P w) a vs :=
  show ObjOk P w H h a (.dK kvs) from rd_of ok e
theorem dk_of {kvs : List (Key × V)} (ok : HOk P w H h) (e : H a = some (.dK kvs)) : kvs.length ≤ sizeLine ∧ (a == sysModules) = false ∧ ∃ vs, KV kvs vs ∧ h.DictOf (mixKind P w) a vs := dk_rd ok (.inl e)

theorem key_of {ks : List Key} (ok : HOk P w H h) (e : H a = some (.tup (ks.map kV))) : (tupleKind (mixKind P w)).is h ks a := by
  obtain ⟨_, its, r, o, h1, h2, n, h3⟩ := (show ObjOk P w H h a (.tup (ks.map kV)) from ok a _ e)
  exact ⟨o, its.toArray, n, h1, h2, h3, by simpa using items_are r⟩
theorem dt_rd {kvs : List (List Key × V)} (ok : HOk P w H h) (e : Rd H a (.dT kvs)) : kvs.length ≤ sizeLine ∧ (a == sysModules) = false ∧
    ∃ xs, KT H kvs xs ∧ h.DictOfH (tupleKind (mixKind P w)) a xs := by
  obtain ⟨z, y, xs, r, o, es, ep, h1, h2, h3, h4, h5⟩ := (show ObjOk P w H h a (.dT kvs) from rd_of ok e)
  refine ⟨z, y, xs, r, o, es, ep, h1, h2, h3, h4, fun x hx => ?_, h5⟩
  have all : ∀ {l : List (List Key × V)} {m : List (List Key × Addr × Value)}, KT H l m → ∀ x ∈ m, (tupleKind (mixKind P w)).is h x.1 x.2.1 := by
    intro l m q
    induction q with
    | nil => intro x hx; exact nomatch hx
    | @cons p q ps qs hq t ih =>
      intro x hx
      rcases List.mem_cons.mp hx with e | hx
      · subst e
        exact key_of ok (by rw [← hq.1]; exact hq.2.1)
      · exact ih x hx
  exact all r x hx
theorem dt_of {kvs : List (List Key × V)} (ok : HOk P w H h) (e : H a = some (.dT kvs)) : kvs.length ≤ sizeLine ∧ (a == sysModules) = false ∧
    ∃ xs, KT H kvs xs ∧ h.DictOfH (tupleKind (mixKind P w)) a xs := dt_rd ok (.inl e)
end


def DGet (H : Hp) (a : Addr) (y : V) (r : Option V) : Prop :=
  (∃ kvs k, Rd H a (.dK kvs) ∧ y = kV k ∧ r = valV kvs k) ∨ ∃ kvs k b, Rd H a (.dT kvs) ∧ y = .ref b ∧ H b = some (.tup (k.map kV)) ∧ r = valV kvs k

def DPut (H : Hp) (a : Addr) (y v : V) (H' : Hp) : Prop :=
  (∃ kvs k, H a = some (.dK kvs) ∧ y = kV k ∧ kvs.length < sizeLine ∧ H' = upd H a (.dK (putK kvs k v))) ∨
  ∃ kvs k b, H a = some (.dT kvs) ∧ y = .ref b ∧ H b = some (.tup (k.map kV)) ∧ kvs.length < sizeLine ∧ H' = upd H a (.dT (putK kvs k v))
theorem DGet.k {H : Hp} {a : Addr} {kvs : List (Key × V)} {k : Key} (e : H a = some (.dK kvs)) : DGet H a (kV k) (valV kvs k) := .inl ⟨kvs, k, .inl e, rfl, rfl⟩
theorem DGet.t {H : Hp} {a b : Addr} {kvs : List (List Key × V)} {k : List Key} (e : H a = some (.dT kvs)) (eb : H b = some (.tup (k.map kV))) : DGet H a (.ref b) (valV kvs k) := .inr ⟨kvs, k, b, .inl e, rfl, eb, rfl⟩
theorem DPut.k {H : Hp} {a : Addr} {kvs : List (Key × V)} {k : Key} {v : V} (e : H a = some (.dK kvs)) (hl : kvs.length < sizeLine) : DPut H a (kV k) v (upd H a (.dK (putK kvs k v))) := .inl ⟨kvs, k, e, rfl, hl, rfl⟩
theorem DPut.t {H : Hp} {a b : Addr} {kvs : List (List Key × V)} {k : List Key} {v : V} (e : H a = some (.dT kvs)) (eb : H b = some (.tup (k.map kV))) (hl : kvs.length < sizeLine) :
    DPut H a (.ref b) v (upd H a (.dT (putK kvs k v))) := .inr ⟨kvs, k, b, e, rfl, eb, hl, rfl⟩


section
variable {X : Cx} {pins : List (Addr × Obj)} {σ : St} {H : Hp} {s : Shared} {a : Addr} {y v : V} {u r : Value} {o : Option V} {A : Around} {E : Value → Shared → Prop}

theorem Inv.big (I : Inv X pins σ H s) : sysModules < s.heap.objs.size := by
  have h : mainGlobals < s.heap.objs.size := (I.mod.glob.keeps I.bk).lt
  exact Nat.lt_trans (by decide) h


theorem d_getItem {Q : Value → Shared → Prop} (hu : A.units + 1 < cLine) (I : Inv X pins σ H s) (g : DGet H a y (some v)) (ry : RelV y u) (h : ∀ w' s', Inv X pins σ H s' → RelV v w' → Q w' s') :
    wpAny (model X.prog X.w) A (getItem (.ref a) u) Q E s := by
  rcases g with ⟨kvs, k, e, ey, l⟩ | ⟨kvs, k, b, e, ey, eb, l⟩
  · subst ey
    obtain ⟨z, hd, vs, rel, dd⟩ := dk_rd I.hok e
    obtain ⟨w', hw, rw'⟩ := RelO.some_of (v := v) (o := valueAt vs k) (by rw [l]; exact rel.val k)
    exact wpAny_getItem_of (kV_is ry) dd.mapOf hw (h w' _ (I.tok _) rw')
  · subst ey
    cases (show u = Value.ref b from ry)
    obtain ⟨z, hd, xs, rel, dd⟩ := dt_rd I.hok e
    obtain ⟨w', hw, rw'⟩ := RelO.some_of (v := v) (o := (atKey xs k).map (·.2)) (by rw [l]; exact rel.val k)
    obtain ⟨p, hp, hp2⟩ := Option.map_eq_some_iff.mp hw
    refine wpAny_getItem_heap (tupleKind_room_in1 hu) (key_of I.hok eb) dd hp ?_
    rw [hp2]
    exact h w' _ (I.tok _) rw'

theorem d_in {Q : Value → Shared → Prop} (hu : A.units + 1 < cLine) (I : Inv X pins σ H s) (g : DGet H a y o) (ry : RelV y u) (h : ∀ s', Inv X pins σ H s' → Q (.bool o.isSome) s') :
    wpAny (model X.prog X.w) A (compareOp .In u (.ref a)) Q E s := by
  rcases g with ⟨kvs, k, e, ey, l⟩ | ⟨kvs, k, b, e, ey, eb, l⟩
  · subst ey
    obtain ⟨z, hd, vs, rel, dd⟩ := dk_rd I.hok e
    refine wpAny_in_of (kV_is ry) hd dd.mapOf ?_
    rw [← (rel.val k).isSome_eq, ← l]
    exact h _ (I.tok _)
  · subst ey
    cases (show u = Value.ref b from ry)
    obtain ⟨z, hd, xs, rel, dd⟩ := dt_rd I.hok e
    refine wpAny_in_heap (tupleKind_room_in1 hu) (key_of I.hok eb) hd dd ?_
    have q := (rel.val k).isSome_eq
    rw [Option.isSome_map] at q
    rw [← q, ← l]
    exact h _ (I.tok _)
theorem d_notIn {Q : Value → Shared → Prop} (hu : A.units + 1 < cLine) (I : Inv X pins σ H s) (g : DGet H a y o) (ry : RelV y u) (h : ∀ s', Inv X pins σ H s' → Q (.bool (!o.isSome)) s') :
    wpAny (model X.prog X.w) A (compareOp .NotIn u (.ref a)) Q E s := by
  rcases g with ⟨kvs, k, e, ey, l⟩ | ⟨kvs, k, b, e, ey, eb, l⟩
  · subst ey
    obtain ⟨z, hd, vs, rel, dd⟩ := dk_rd I.hok e
    refine wpAny_notIn_of (kV_is ry) hd dd.mapOf ?_
    rw [← (rel.val k).isSome_eq, ← l]
    exact h _ (I.tok _)
  · subst ey
    cases (show u = Value.ref b from ry)
    obtain ⟨z, hd, xs, rel, dd⟩ := dt_rd I.hok e
    refine wpAny_notIn_heap (tupleKind_room_in1 hu) (key_of I.hok eb) hd dd ?_
    have q := (rel.val k).isSome_eq
    rw [Option.isSome_map] at q
    rw [← q, ← l]
    exact h _ (I.tok _)

theorem d_write {h' : Heap} {t' : Nat} {ob : HO} (I : Inv X pins σ H s) (mu : Mut (H a)) (hs : Heap.SameBut a s.heap h') (he : ∃ q, h'.get? a = some q) (new : ObjOk X.prog X.w (upd H a ob) h' a ob) :
    Inv X pins σ (upd H a ob) { s with heap := h', toks := t' } :=
  I.write (x := a) (e := a) mu (.inl rfl) (fun b q hb z => (hs.2 b hb).trans z) he new
theorem dk_new {P : Program} {w : World} {H' : Hp} {h' : Heap} {kvs : List (Key × V)} {vs : List (Key × Value)} (z : kvs.length ≤ sizeLine) (hd : (a == sysModules) = false) (rel : KV kvs vs) (dd : h'.DictOf (mixKind P w) a vs) :
    ObjOk P w H' h' a (.dK kvs) := ⟨z, hd, vs, rel, dd⟩

theorem d_setItem {H' : Hp} {Q : Unit → Shared → Prop} (hu : A.units + 1 < cLine) (I : Inv X pins σ H s) (g : DPut H a y v H') (ry : RelV y u) (rv : RelV v r) (h : ∀ s', Inv X pins σ H' s' → Q () s') :
    wpAny (model X.prog X.w) A (setItem (.ref a) u r) Q E s := by
  rcases g with ⟨kvs, k, e, ey, l, eH⟩ | ⟨kvs, k, b, e, ey, eb, l, eH⟩
  · subst ey eH
    obtain ⟨z, hd, vs, rel, dd⟩ := dk_of I.hok e
    have hz : vs.length ≤ sizeLine := by rw [← rel.length]; exact z
    have hl : (putK kvs k v).length ≤ sizeLine := by have := length_putK kvs k v; omega
    refine wpAny_setItem_pairs (hsz := hz) (kV_is ry) dd fun h' dd' hs => h _ ?_
    have he : ∃ q, h'.get? a = some q := let ⟨q, _, _, hq, _⟩ := dd'; ⟨q, hq⟩
    exact d_write I (by rw [e]; exact True.intro) hs he (dk_new hl hd (rel.put k rv) dd')
  · subst ey eH
    cases (show u = Value.ref b from ry)
    obtain ⟨z, hd, xs, rel, dd⟩ := dt_of I.hok e
    have hz : xs.length ≤ sizeLine := by rw [← Paired.length rel]; exact z
    have hl : (putK kvs k v).length ≤ sizeLine := by have := length_putK kvs k v; omega
    refine wpAny_setItem_heap (hsz := hz) (tupleKind_room_in1 hu) (key_of I.hok eb) dd fun h' dd' hs => h _ ?_
    obtain ⟨q, es, ep, hq, h2, h3, h4, _, h5⟩ := dd'
    refine d_write I (by rw [e]; exact True.intro) hs ⟨q, hq⟩ ⟨hl, hd, _, (rel.put k eb rv).keeps fun c ys ec => ?_, q, es, ep, hq, h2, h3, h4, h5⟩
    rw [upd_ne (ne_of ec e (fun z => nomatch z))]
    exact ec
end

section
variable {X : Cx} {pins : List (Addr × Obj)} {σ : St} {H : Hp} {s : Shared} {a : Addr} {kvs : List (Key × V)} {k : Key} {u : Value} {A : Around} {E : Value → Shared → Prop}

end




def NoSl (i : Expr) : Prop := ∀ ov iv, subscripted i false ov iv = operate [ov, iv] (getItem ov iv)
theorem subD_of {prog : Program} {w : World} {A : Around} {E : Value → Shared → Prop} {s : Shared} {env : Env} {value slice : Expr} {pos : Pos} {T id : String} {Q : Value → Shared → Prop}
    (hl : typeLookup (.type T) "__getitem__" = pure (some (.builtin id))) (hs : NoSl slice)
    (h : wpAny (model prog w) A (eval value env) (fun o s₁ => wpAny (model prog w) A (eval slice env) (fun i s₂ => s₂.TypeIs o T ∧ wpAny (model prog w) A (getItem o i) Q E s₂) E s₁) E s) :
    wpAny (model prog w) A (eval (.Subscript value slice pos) env) Q E s := by
  refine Subscript_ (wpAny_mono h (fun o s₁ h₁ => wpAny_mono h₁ (fun i s₂ h₂ => ?_) fun _ _ x => x) fun _ _ x => x)
  obtain ⟨hT, h₂⟩ := h₂
  unfold subscriptTail
  refine wpAny_bind ?_
  rw [getitemInPython_of_ne hT.not_modules]
  refine wpAny_bind (wpAny_specialOf hT hl ?_)
  have fin : wpAny (model prog w) A (subscripted slice false o i) (fun r s₃ => wpAny (model prog w) A (letTemporaryGo value o r >>= fun _ => pure r) Q E s₃) E s₂ := by
    rw [hs o i]
    exact wpAny_operating (wpAny_mono h₂ (fun r s₃ h₃ => wpAny_bind (wpAny_letTemporaryGo (wpAny_pure h₃))) fun _ _ x => x)
  first
    | exact wpAny_pure (wpAny_bind fin)
    | exact wpAny_bind (wpAny_pure (wpAny_bind fin))
    | exact wpAny_bind fin

theorem dict_typeIs {X : Cx} {pins : List (Addr × Obj)} {σ : St} {H : Hp} {s : Shared} {a : Addr} {y : V} {o : Option V} (I : Inv X pins σ H s) (g : DGet H a y o) : s.TypeIs (.ref a) "dict" := by
  rcases g with ⟨kvs, k, e, _, _⟩ | ⟨kvs, k, b, e, _, _, _⟩
  · obtain ⟨_, _, vs, _, dd⟩ := dk_rd I.hok e
    exact dd.typeIs
  · obtain ⟨_, _, xs, _, dd⟩ := dt_rd I.hok e
    exact dd.typeIs
def tDGet (td ty : TE) : TE := fun σ H Q => td σ H fun x H1 => ty σ H1 fun y H2 => ∃ a v, x = .ref a ∧ DGet H2 a y (some v) ∧ Q v H2

def tDIn (ty td : TE) : TE := fun σ H Q => ty σ H fun y H1 => td σ H1 fun x H2 => ∃ a o, x = .ref a ∧ DGet H2 a y o ∧ Q (.bl o.isSome) H2
def tDNotIn (ty td : TE) : TE := fun σ H Q => ty σ H fun y H1 => td σ H1 fun x H2 => ∃ a o, x = .ref a ∧ DGet H2 a y o ∧ Q (.bl (!o.isSome)) H2

def sDPut (td ty tv : TE) : TS := fun D σ H => tv σ H fun v H1 => td σ H1 fun x H2 => ty σ H2 fun y H3 => ∃ a H4, x = .ref a ∧ DPut H3 a y v H4 ∧ D.nx σ H4

def sDAug (td ty tv : TE) (rd : V → V → Hp → VK → Prop) : TS := fun D σ H => td σ H fun x H1 => ty σ H1 fun y H2 => ∃ a v, x = .ref a ∧ DGet H2 a y (some v) ∧
  tv σ H2 fun y2 H3 => rd v y2 H3 fun z H4 => ∃ H5, DPut H4 a y z H5 ∧ D.nx σ H5

def sDDel (td ty : TE) : TS := fun D σ H => td σ H fun x H1 => ty σ H1 fun y H2 => ∃ a kvs k, x = .ref a ∧ H2 a = some (.dK kvs) ∧ y = kV k ∧ (valV kvs k).isSome = true ∧ D.nx σ (upd H2 a (.dK (dropK kvs k)))

section
variable {X : Cx} {o i e value : Expr} {pos pos' tpos : Pos} {td ty tv : TE}
theorem pe_dget (hu : X.A.units + 1 < cLine) (ho : PE X o td) (hi : PE X i ty) (hs : NoSl i) : PE X (.Subscript o i pos) (tDGet td ty) := by
  intro pins s σ H Q I h
  refine subD_of PySem.F.slot_dict_getitem.lookup hs (thn (ho pins s σ H _ I h) fun u s1 ⟨x, H1, I1, rx, q1⟩ => thn (hi pins s1 σ H1 _ I1 q1) fun iv s2 ⟨y, H2, I2, ry, a, v, ex, g, q2⟩ => ?_)
  subst ex
  obtain rfl : u = Value.ref a := rx
  exact ⟨dict_typeIs I2 g, d_getItem hu I2 g ry fun w' s3 I3 rw' => ⟨v, H2, I3, rw', q2⟩⟩
theorem pc_din (hu : X.A.units + 1 < cLine) (hi : PE X i ty) (ho : PE X o td) : PC X .In i o (tDIn ty td) := by
  intro pins s σ H Q I h
  refine thn (hi pins s σ H _ I h) fun iv s1 ⟨y, H1, I1, ry, q1⟩ => thn (ho pins s1 σ H1 _ I1 q1) fun u s2 ⟨x, H2, I2, rx, a, ov, ex, g, q2⟩ => ?_
  subst ex
  obtain rfl : u = Value.ref a := rx
  exact d_in hu I2 g ry fun s3 I3 => ⟨.bl ov.isSome, H2, I3, rfl, q2⟩
theorem pc_dnotin (hu : X.A.units + 1 < cLine) (hi : PE X i ty) (ho : PE X o td) : PC X .NotIn i o (tDNotIn ty td) := by
  intro pins s σ H Q I h
  refine thn (hi pins s σ H _ I h) fun iv s1 ⟨y, H1, I1, ry, q1⟩ => thn (ho pins s1 σ H1 _ I1 q1) fun u s2 ⟨x, H2, I2, rx, a, ov, ex, g, q2⟩ => ?_
  subst ex
  obtain rfl : u = Value.ref a := rx
  exact d_notIn hu I2 g ry fun s3 I3 => ⟨.bl (!ov.isSome), H2, I3, rfl, q2⟩
theorem ps_dput (hu : X.A.units + 1 < cLine) (ho : PE X o td) (hi : PE X i ty) (hv : PE X value tv) (hs : swapsWith value (some (.Subscript o i pos')) pos.line X.env = pure false) :
    PS X (.Assign [.Subscript o i pos'] value pos) (sDPut td ty tv) := by
  intro pins s σ H D I h
  refine wpAny_Assign_Subscript (thn (hv pins s σ H _ I h) fun r s1 ⟨v, H1, I1, rv, q1⟩ => thn (ho pins s1 σ H1 _ I1 q1) fun u s2 ⟨x, H2, I2, rx, q2⟩ => thn (hi pins s2 σ H2 _ I2 q2) fun iv s3 ⟨y, H3, I3, ry, a, H4, ex, g, q3⟩ => ?_) hs
  subst ex
  obtain rfl : u = Value.ref a := rx
  exact d_setItem hu I3 g ry rv fun s4 I4 => ⟨σ, H4, I4, q3⟩
end



theorem dk_empty {P : Program} {w : World} {H : Hp} (h : Heap) (hb : sysModules < h.objs.size) : ObjOk P w H (h.push { cls := .type "dict", data := .dict #[] }) h.objs.size (.dK []) :=
  ⟨Nat.zero_le _, beq_eq_false_iff_ne.mpr (Ne.symm (Nat.ne_of_lt hb)), [], .nil, Heap.DictOf.new h⟩
def tDNewK : TE := fun _ H Q => ∀ p, H p = none → Q (.ref p) (upd H p (.dK []))
def tDNewT : TE := fun _ H Q => ∀ p, H p = none → Q (.ref p) (upd H p (.dT []))
section
variable {X : Cx} {pos : Pos}
theorem pe_dnewK : PE X (.Dict [] [] pos) tDNewK := fun pins s σ H Q I h =>
  wpAny_Dict_empty ⟨.ref s.heap.objs.size, _, I.laid (a := s.heap.objs.size) (o := .dK []) (t' := s.toks) (fun _ _ q => Heap.get?_push_of_some _ q) (Nat.le_refl _) (dk_empty s.heap I.big), rfl, h _ (I.hok.fresh (Nat.le_refl _))⟩
end


def tPairs : List (TE × TE) → St → Hp → (List (V × V) → Hp → Prop) → Prop
  | [], _, H, Q => Q [] H
  | (tk, tv) :: r, σ, H, Q => tk σ H fun x H1 => tv σ H1 fun y H2 => tPairs r σ H2 fun ps H3 => Q ((x, y) :: ps) H3
abbrev VV : List (V × V) → List (Value × Value) → Prop := Paired fun p q => RelV p.1 q.1 ∧ RelV p.2 q.2
def PPs (X : Cx) (pos : Pos) (keys : List (Option Expr)) (values : List Expr) (trs : List (TE × TE)) : Prop :=
  ∀ (pins : List (Addr × Obj)) (s : Shared) (σ : St) (H : Hp) (Q : List (V × V) → Hp → Prop), Inv X pins σ H s → tPairs trs σ H Q →
    wpAny (model X.prog X.w) X.A (evalPairs (pairTrees keys values X.env pos)) (fun vs s' => ∃ ps H', Inv X pins σ H' s' ∧ VV ps vs ∧ Q ps H') X.xe s
theorem pps_nil {X : Cx} {pos : Pos} : PPs X pos [] [] [] := fun pins s σ H Q I h => pairTrees_nil_walk ⟨[], H, I, .nil, h⟩
theorem pps_cons {X : Cx} {pos : Pos} {k v : Expr} {ks : List (Option Expr)} {vs : List Expr} {tk tv : TE} {trs : List (TE × TE)} (hk : PE X k tk) (hv : PE X v tv) (hr : PPs X pos ks vs trs) :
    PPs X pos (some k :: ks) (v :: vs) ((tk, tv) :: trs) := fun pins s σ H Q I h =>
  pairTrees_cons_walk (thn (hk pins s σ H _ I h) fun u s1 ⟨x, H1, I1, rx, q1⟩ => thn (hv pins s1 σ H1 _ I1 q1) fun w2 s2 ⟨y, H2, I2, ry, q2⟩ =>
    thn (hr pins s2 σ H2 _ I2 q2) fun ws s3 ⟨ps, H3, I3, rel, q3⟩ => ⟨(x, y) :: ps, H3, I3, .cons ⟨rx, ry⟩ rel, q3⟩)

def mergeK (kvs more : List (Key × V)) : List (Key × V) := more.foldl (fun acc kv => putK acc kv.1 kv.2) kvs
theorem KV.merge : ∀ {more : List (Key × V)} {rs : List (Key × Value)} {kvs : List (Key × V)} {vs : List (Key × Value)}, KV more rs → KV kvs vs → KV (mergeK kvs more) (merged vs rs) := by
  intro more rs kvs vs r
  unfold KV at r
  induction r generalizing kvs vs with
  | nil => intro q; exact q
  | @cons p q ps qs h t ih =>
    intro r0
    have e : KV (putK kvs p.1 p.2) (stored vs q.1 q.2) := by
      have := r0.put p.1 h.2
      rw [← h.1]; exact this
    exact ih e
theorem length_mergeK : ∀ (more kvs : List (Key × V)), (mergeK kvs more).length ≤ kvs.length + more.length
  | [], kvs => by show kvs.length ≤ kvs.length + 0; omega
  | p :: r, kvs => by
    have h1 := length_mergeK r (putK kvs p.1 p.2)
    have h2 := length_putK kvs p.1 p.2
    show (mergeK (putK kvs p.1 p.2) r).length ≤ _
    rw [List.length_cons]; omega
theorem carries_of {P : Program} {w : World} : ∀ {kvs : List (Key × V)} {ws : List (Value × Value)}, VV (kvs.map fun kv => (kV kv.1, kv.2)) ws → ∃ rs, Carries (mixKind P w) ws rs ∧ KV kvs rs
  | [], _, r => by rw [List.map_nil] at r; cases r; exact ⟨[], True.intro, .nil⟩
  | p :: kvs, _, r => by
    rw [List.map_cons] at r
    cases r with
    | @cons a b as bs h t =>
      obtain ⟨rs, c, q⟩ := carries_of (P := P) (w := w) t
      obtain ⟨b1, b2⟩ := b
      exact ⟨(p.1, b2) :: rs, ⟨kV_is h.1, rfl, c⟩, .cons ⟨rfl, h.2⟩ q⟩

def tDisp (trs : List (TE × TE)) : TE := fun σ H Q => ∀ p, H p = none → tPairs trs σ (upd H p (.dK [])) fun ps H2 => H2 p = some (.dK []) ∧ ∃ kvs : List (Key × V), ps = kvs.map (fun kv => (kV kv.1, kv.2)) ∧ kvs.length ≤ 15 ∧ Q (.ref p) (upd H2 p (.dK (mergeK [] kvs)))
theorem pe_disp {X : Cx} {pos : Pos} {keys : List (Option Expr)} {values : List Expr} {trs : List (TE × TE)} (h : PPs X pos keys values trs) (hall : keys.all (·.isSome) = true) (hl : keys.length = values.length) (h0 : keys ≠ [])
    (h15 : keys.length ≤ 15) : PE X (.Dict keys values pos) (tDisp trs) := by
  intro pins s σ H Q I q
  have hn := I.hok.fresh (Nat.le_refl s.heap.objs.size)
  have I1 := I.laid (a := s.heap.objs.size) (o := .dK []) (h' := s.heap.push { cls := .type "dict", data := .dict #[] }) (t' := s.toks) (fun _ _ q => Heap.get?_push_of_some _ q) (Nat.le_refl _) (dk_empty s.heap I.big)
  refine wpAny_Dict_walk (knd := mixKind X.prog X.w) hall hl h0 h15 (thn (h pins _ σ _ _ I1 (q _ hn)) fun ws s2 ⟨ps, H2, I2, rel, e, kvs, ep, lk, q2⟩ => ?_)
  subst ep
  obtain ⟨rs, c, rk⟩ := carries_of (P := X.prog) (w := X.w) rel
  obtain ⟨z, hd, vs0, r0, dd⟩ := dk_of I2.hok e
  cases r0
  refine ⟨rs, c, dd, fun h' dd' hs => ⟨.ref s.heap.objs.size, _, ?_, rfl, q2⟩⟩
  have hz : (mergeK [] kvs).length ≤ sizeLine := by
    have h1 := length_mergeK kvs []
    rw [List.length_nil] at h1
    rw [sizeLine_eq]; omega
  have he : ∃ q, h'.get? s.heap.objs.size = some q := let ⟨q, _, _, hq, _⟩ := dd'; ⟨q, hq⟩
  exact d_write I2 (by rw [e]; exact True.intro) hs he (dk_new hz hd (rk.merge .nil) dd')




structure M1 (X : Cx) (o : Expr) (m : Str) (apos : Pos) (e : Expr) (cpos : Pos) : Prop where
  base : attributeBase o m X.env (eval o X.env) = eval o X.env
  few : ((backTo cpos (starEach [e] X.env)).all (fun x => !x.1) && (backToKw cpos (keywordEach [] X.env)).all (fun x => x.1.isSome)
    && decide (([e] : List Expr).length + ([] : List Keyword).length + (if ([] : List Keyword).isEmpty then 0 else 1) < 30)) = true
  line : (apos.endLine == cpos.line) = true
  trees : backTo cpos (starEach [e] X.env) = [(false, eval e X.env)]
structure M2 (X : Cx) (o : Expr) (m : Str) (apos : Pos) (e f : Expr) (cpos : Pos) : Prop where
  base : attributeBase o m X.env (eval o X.env) = eval o X.env
  few : ((backTo cpos (starEach [e, f] X.env)).all (fun x => !x.1) && (backToKw cpos (keywordEach [] X.env)).all (fun x => x.1.isSome)
    && decide (([e, f] : List Expr).length + ([] : List Keyword).length + (if ([] : List Keyword).isEmpty then 0 else 1) < 30)) = true
  line : (apos.endLine == cpos.line) = true
  trees : backTo cpos (starEach [e, f] X.env) = [(false, eval e X.env), (false, eval f X.env)]


def IsD (H : Hp) (a : Addr) : Prop := (∃ kvs, Rd H a (.dK kvs)) ∨ ∃ kvs, Rd H a (.dT kvs)
theorem isD_at {X : Cx} {pins : List (Addr × Obj)} {σ : St} {H : Hp} {s : Shared} {a : Addr} (I : Inv X pins σ H s) (d : IsD H a) :
    s.TypeIs (.ref a) "dict" ∧ (∀ b, Value.ref a = .ref b → ∃ ob, s.heap.get? b = some ob ∧ ob.dict = none) ∧ (a == sysModules) = false := by
  rcases d with ⟨kvs, e⟩ | ⟨kvs, e⟩
  · obtain ⟨_, hd, vs, _, dd⟩ := dk_rd I.hok e
    refine ⟨dd.typeIs, fun b q => ?_, hd⟩
    cases q
    obtain ⟨ob, _, _, h1, h2, _⟩ := dd
    exact ⟨ob, h1, h2.2.1⟩
  · obtain ⟨_, hd, xs, _, dd⟩ := dt_rd I.hok e
    refine ⟨dd.typeIs, fun b q => ?_, hd⟩
    cases q
    obtain ⟨ob, _, _, h1, h2, _⟩ := dd
    exact ⟨ob, h1, h2.2.1⟩

section
variable {X : Cx} {pins : List (Addr × Obj)} {σ : St} {H : Hp} {s : Shared} {a : Addr} {y d : V} {u r : Value} {o : Option V} {A : Around} {E : Value → Shared → Prop}

theorem d_get1 {Q : Value → Shared → Prop} (hu : A.units + 1 < cLine) (I : Inv X pins σ H s) (g : DGet H a y o) (ry : RelV y u) (h : ∀ w' s', Inv X pins σ H s' → RelV (o.getD .non) w' → Q w' s') :
    wpAny (model X.prog X.w) A (call (.builtin "dict.get") [.ref a, u]) Q E s := by
  rcases g with ⟨kvs, k, e, ey, l⟩ | ⟨kvs, k, b, e, ey, eb, l⟩
  · subst ey
    obtain ⟨z, hd, vs, rel, dd⟩ := dk_rd I.hok e
    refine call_meetsIn PySem.F.slot_dict_get dd.typeIs PySem.F.entry_dict_get (PySem.F.args_dict_get_2 _ _) (meets_dict_get (mixKind X.prog X.w) a (kV_is ry) hd) ⟨_, dd.mapOf, h _ _ (I.tok _) ?_⟩
    rw [l]
    exact (rel.val k).getD rfl
  · subst ey
    cases (show u = Value.ref b from ry)
    obtain ⟨z, hd, xs, rel, dd⟩ := dt_rd I.hok e
    refine call_meetsIn PySem.F.slot_dict_get dd.typeIs PySem.F.entry_dict_get (PySem.F.args_dict_get_2 _ _) (meetsH_dict_get (tupleKind (mixKind X.prog X.w)) a b hd) ⟨tupleKind_room_in1 hu, k, xs, key_of I.hok eb, dd, h _ _ (I.tok _) ?_⟩
    rw [l]
    exact (rel.val k).getD rfl

end

def tDGet1 (td ty : TE) : TE := fun σ H Q => td σ H fun x H1 => ∃ a, x = .ref a ∧ IsD H1 a ∧ ty σ H1 fun y H2 => ∃ o, DGet H2 a y o ∧ Q (o.getD .non) H2
def tDGet2 (td ty tx : TE) : TE := fun σ H Q => td σ H fun x H1 => ∃ a, x = .ref a ∧ IsD H1 a ∧ ty σ H1 fun y H2 => tx σ H2 fun z H3 => ∃ o, DGet H3 a y o ∧ Q (o.getD z) H3

def tDPop1 (td ty : TE) : TE := fun σ H Q => td σ H fun x H1 => ∃ a, x = .ref a ∧ IsD H1 a ∧ ty σ H1 fun y H2 => ∃ kvs k v, H2 a = some (.dK kvs) ∧ y = kV k ∧ valV kvs k = some v ∧ Q v (upd H2 a (.dK (dropK kvs k)))
def tDPop2 (td ty tx : TE) : TE := fun σ H Q => td σ H fun x H1 => ∃ a, x = .ref a ∧ IsD H1 a ∧ ty σ H1 fun y H2 => tx σ H2 fun z H3 => ∃ kvs k, H3 a = some (.dK kvs) ∧ y = kV k ∧
  (∀ v, valV kvs k = some v → Q v (upd H3 a (.dK (dropK kvs k)))) ∧ (valV kvs k = none → Q z H3)
section
variable {X : Cx} {o e f : Expr} {apos cpos : Pos} {td ty tx : TE}
theorem pe_dget1 (hu : X.A.units + 1 < cLine) (ho : PE X o td) (he : PE X e ty) (m : M1 X o "get" apos e cpos) : PE X (.Call (.Attribute o "get" apos) [e] [] cpos) (tDGet1 td ty) := by
  intro pins s σ H Q I h
  refine wpAny_Call_method m.base m.few m.line PySem.F.plainAttrs_dict PySem.F.slot_dict_get PySem.F.type_dict_get (thn (ho pins s σ H _ I h) fun u s1 ⟨x, H1, I1, rx, a, ex, d, q1⟩ => ?_)
  subst ex
  obtain rfl : u = Value.ref a := rx
  obtain ⟨t1, t2, _⟩ := isD_at I1 d
  refine ⟨t1, t2, ?_⟩
  rw [m.trees]
  refine Calls.callWith_builtin rfl (Calls.evalArgs_plain (Calls.spliced_cons (thn (he pins s1 σ H1 _ I1 q1) fun iv s2 ⟨y, H2, I2, ry, ov, g, q2⟩ => Calls.spliced_nil ?_)))
  exact d_get1 hu I2 g ry fun w' s3 I3 rw' => ⟨_, H2, I3, rw', q2⟩
end


section
variable {X : Cx} {pins : List (Addr × Obj)} {σ : St} {H : Hp} {s : Shared} {a : Addr} {kvs : List (Key × V)} {A : Around} {E : Value → Shared → Prop}
end


section
variable {X : Cx} {pins : List (Addr × Obj)} {σ : St} {H : Hp} {s : Shared} {a : Addr} {y : V} {u : Value} {A : Around} {E : Value → Shared → Prop}

end
end L2

namespace Att
open PySem PySem.W PySem.Calls PyProof.Rows


theorem ints_of_wellAll {P : Params} {h : Heap} : ∀ (ns : List Int) (vs : List Value), WellAll P h vs (ns.map WData.int) → IntsAre vs ns := by
  intro ns
  induction ns with
  | nil =>
    intro vs w
    rw [List.map_nil] at w
    cases w
    exact .nil
  | cons n ns ih =>
    intro vs w
    rw [List.map_cons] at w
    cases w with
    | cons a b =>
      cases a
      exact .cons _ _ (ih _ b)

theorem script_of {l : OpenLaw} {n : Nat} (hn : l.most = some n) {P : Params} {h : Heap} {args : List WData} {vals : List Value}
    (hpre : l.row.toRowW.claim.pre args = true) (hwl : WellAll P h vals args) :
    ∃ a vs ns, vals = [Value.ref a] ∧ args = [WData.list (ns.map WData.int)] ∧ h.get? a = some { cls := .type "list", data := .seq vs.toArray } ∧ IntsAre vs ns ∧ ns.length ≤ n := by
  have hsh : WShape.hasAll [] args [.list .int] = true := (pre_splitW hpre).1
  have hc : l.pre.holds [] { args := args } = true := (pre_splitW hpre).2
  obtain ⟨d, r, rfl, h1, h2⟩ := hasAllW_cons hsh
  obtain rfl := hasAllW_nil h2
  obtain ⟨xs, rfl, h3⟩ := hasW_list h1
  obtain ⟨ns, rfl⟩ := items_int h3
  have hlen : ns.length ≤ n := by
    unfold OpenLaw.pre at hc
    have h4 : (WTm.not (.lt (.lit (.int (n : Int))) (.len (.arg 0)))).holds [] { args := [.list (ns.map .int)] } = true := by
      have h4 := (holds_andW hc).1
      rw [hn] at h4
      exact h4
    have h5 := condW_of h4 (w_not (w_lt w_lit (w_len_list (w_arg rfl))))
    rw [List.length_map] at h5
    refine Nat.le_of_not_lt fun q => ?_
    have q' : (n : Int) < ((ns.length : Nat) : Int) := by omega
    first
      | (rw [decide_eq_true q'] at h5; exact absurd h5 (by decide))
      | (simp at h5; omega)
  cases hwl with
  | cons w1 w2 =>
    cases w2
    cases w1 with
    | list ho hall => exact ⟨_, _, ns, rfl, rfl, ho, ints_of_wellAll ns _ hall, hlen⟩

theorem post_true (l : OpenLaw) (args : List WData) : l.row.toRowW.claim.post args (.bool true) args = true :=
  postW_of (r := l.row.toRowW) (X := (true == true))
    (show WShape.has [] (.bool true) .bool = true by first | rfl | decide | simp [WShape.has, WShape.arms, WShape.armsAll])
    (show (WTm.eq .res (.lit (.bool true))).value [] { args := args, res := some (.bool true), after := args } = some (.bool (true == true)) from w_eq_bool (w_res rfl) w_lit) rfl


theorem attach_call {l : OpenLaw} {n : Nat} {q : Program} {loose : List Str} {XP : (Str → Option Value) → Heap → Prop} {YP : World → Heap → Prop} {d : DefRec}
    (hn : l.most = some n) (hdf : d.params.defaults = [])
    (call : ∀ (w : World) (s₀ s₁ : Shared) (mg mb : Str → Option Value) (fa : Addr) (o : Obj) (pm cd doc : Value) (a : Addr) (vs : List Value) (ns : List Int),
      Ground q loose [] XP w s₀ mg mb s₁.heap → YP w s₁.heap →
      s₁.heap.get? fa = some o → o.data = .func (docDef d.name d.params d.body d.scope pm cd doc) → s₁.heap.CodeRec cd d.name → mg d.name = some (.ref fa) →
      s₁.heap.get? a = some { cls := .type "list", data := .seq vs.toArray } → IntsAre vs ns → ns.length ≤ n → s₁.gens = #[] →
      codeAny (model l.prog w) callerA (.call (.ref fa) ⟨[.ref a], []⟩) (fun r s' => r = .ok (.ret (.bool true)) ∧ OldK s₁.heap s'.heap ∧ s'.os = s₁.os ∧ AllBare s'.gens) s₁) :
    WalkO q loose XP YP l.row.toRowW d [] (fun f vs => PySem.call f vs) := by
  intro w s₀ s₁ mg mb G Y fa o pm cd doc dV kV ho hd hcd hD hmg hg args vals as hpre hlay hrd hwl hlo
  obtain rfl : dV = .none := Dflts.none hD hdf
  obtain rfl : kV = .none := Dflts.noKw hD
  obtain ⟨a, vs, ns, rfl, rfl, hobj, hints, hlen⟩ := script_of hn hpre hwl
  refine enter_call (codeAny_mono (call w s₀ s₁ mg mb fa o pm cd doc a vs ns G Y ho (fd_plain hd) hcd hmg hobj hints hlen hg) fun r s' hq => ?_)
  obtain ⟨rfl, h2, h3, h4⟩ := hq
  exact ⟨.inl ⟨.bool true, .bool true, [], rfl, fun _ => rfl, .bool true, post_true l _, fun _ => ⟨List.Pairwise.nil, fun _ hm => (nomatch hm)⟩⟩, h2, h3, h4⟩


section
variable {prog : Program} {w : World} {A : Around} {E : Value → Shared → Prop} {s : Shared} {K : Frag}


def noObjs (h : Heap) : Heap := { h with objs := #[] }
def ledger (h : Heap) (L d : Addr) : List (Addr × Obj) := (List.range h.objs.size).filterMap fun a => if a = L ∨ a = d then none else (h.get? a).map fun o => (a, o)
end
end Att

namespace L2
open PySem PySem.Spec PyProof.Rows

theorem vals_ints : ∀ {vs : List Value} {ns : List Int}, IntsAre vs ns → Vals (ns.map V.int) vs
  | _, _, .nil => .nil
  | _, _, .cons n t h => .cons ⟨t, rfl⟩ (vals_ints h)


def Only (H : Hp) : Prop := ∀ b, H b = none ∨ ∃ o xs, H b = some (.frz o (.lst xs))


theorem law_call {P : Program} {w : World} {K : PySem.W.Frag} {mg mb : Str → Option Value} {CX : CXT} {k : Nat} {fa a : Addr} {fd : FuncData} {x : Str} {sp : Sp} {s₁ : Shared} {vs : List Value} {ns : List Int}
    (KX : K.In s₁.heap) (hns : s₁.heap.Ns mainGlobals mg) (hb : s₁.heap.Ns builtinsNs mb) (hbb : ∀ x : Str, x ≠ "__name__" → mb x = bootBuiltins x) (hlim : s₁.heap.NoLimit) (hg : s₁.gens = #[])
    (ha : s₁.heap.get? a = some { cls := .type "list", data := .seq vs.toArray }) (hi : IntsAre vs ns) (hl : ns.length ≤ sizeLine) (hr : Room k callerA)
    (F : ∀ base : Heap, K.In base → base.Ns mainGlobals mg → FnOk P w K mg base CX k fa fd [x] sp) (hbind : ∀ (s : Shared) (u : Value), BindsTo s fd ⟨[u], []⟩ [(x, u)])
    (hsp : ∀ H : Hp, Only H → SqL K H a (ns.map V.int) → sp [.ref a] H (fun v _ => v = .bl true) fun _ _ _ => False)
    (hCX : ∀ H e s', CX [] H s₁ (fun _ _ _ => False) e s' → False) :
    codeAny (model P w) callerA (.call (.ref fa) ⟨[.ref a], []⟩) (fun r s' => r = .ok (.ret (.bool true)) ∧ OldK s₁.heap s'.heap ∧ s'.os = s₁.os ∧ AllBare s'.gens) s₁ := by
  have rv := vals_ints hi
  have lenV := hi.length
  -- from an abstract heap in which nothing but the script may be tracked
  have core : ∀ H : Hp, Only H → SqL K H a (ns.map V.int) → HOk P w H s₁.heap → (∀ b, H b ≠ none → b = a) → (H a ≠ none → K.lookup a = none) →
      codeAny (model P w) callerA (.call (.ref fa) ⟨[.ref a], []⟩) (fun r s' => r = .ok (.ret (.bool true)) ∧ OldK s₁.heap s'.heap ∧ s'.os = s₁.os ∧ AllBare s'.gens) s₁ := by
    intro H hO hS hok hA hK
    have base_of : ∀ {b : Addr} {o : Obj}, s₁.heap.get? b = some o → H b = none → (hidT s₁.heap H).get? b = some o := fun e n => hidT_get e n
    have noA : ∀ {b : Addr} {o : Obj} {es : Array DictEntry} {ep : Nat}, s₁.heap.get? b = some o → o.data = .dict es ep → H b = none := fun {b o es ep} e d => by
      cases q : H b with
      | none => rfl
      | some u =>
        have e' : b = a := hA b (by rw [q]; simp)
        subst e'
        rw [ha] at e; cases e
        have d' : Data.seq vs.toArray _ = Data.dict es ep := d
        cases d'
    have nsK : ∀ {b : Addr} {m : Str → Option Value}, s₁.heap.Ns b m → (hidT s₁.heap H).Ns b m := fun {b m} ⟨o, es, ep, e, d, r⟩ => ⟨o, es, ep, base_of e (noA e d), d, r⟩
    have hKb : K.In (hidT s₁.heap H) := fun b o e => base_of (KX b o e) (by
      cases q : H b with
      | none => rfl
      | some u =>
        have e' : b = a := hA b (by rw [q]; simp)
        subst e'
        rw [hK (by rw [q]; simp)] at e; cases e)
    have hM : Mod K mg (hidT s₁.heap H) := ⟨hKb, nsK hns, ⟨mb, nsK hb, hbb⟩, let ⟨mc, h1, h2⟩ := hlim; ⟨mc, nsK h1, h2⟩⟩
    have e0 : Env0 P w K mg (hidT s₁.heap H) callerA [] s₁ H := ⟨rfl, hM, fun b o e => of_hidT e, Nat.le_of_eq (hidT_size _ _), trivial, fun b hb => absurd (show b ∈ ([] : List Addr) from hb) (by simp), hok, .of_eq hg⟩
    refine codeAny_mono ((F _ hKb (nsK hns)).run callerA [] s₁ H ⟨[.ref a], []⟩ [.ref a] [.ref a] _ _ hr e0 (hbind s₁ (.ref a)) (.cons rfl .nil) (hsp H hO hS)) fun r s' h => ?_
    cases r with
    | error e => exact (hCX H e s' h).elim
    | ok fl =>
      cases fl with
      | next => exact False.elim h
      | brk => exact False.elim h
      | cont => exact False.elim h
      | ret u =>
        obtain ⟨v, H', os, bare, un, hok', r', q⟩ := h
        have q' : v = .bl true := q
        subst q'
        obtain rfl : u = Value.bool true := r'
        refine ⟨rfl, OldK.of_keep fun b o e => ?_, os, bare⟩
        cases q : H b with
        | none => exact un.keep b o e q (by intro z; exact absurd (show b ∈ ([] : List Addr) from z) (by simp)) (by simp)
        | some u =>
          rcases hO b with z | ⟨ob, xs, z⟩
          · rw [q] at z; cases z
          · have z2 := un.frzs b ob _ z
            obtain ⟨e1, _⟩ := hok b _ z
            obtain ⟨e2, _⟩ := hok' b _ z2
            rw [e] at e1; cases e1
            exact e2
  cases hk : K.lookup a with
  | some o =>
    -- the script is one of the module's own objects
    have e := KX a o hk
    rw [ha] at e
    cases e
    refine core (fun _ => none) (fun _ => .inl rfl) (.inr ⟨_, vs.toArray, _, hk, rfl, rfl, rfl, by rw [List.size_toArray, lenV]; exact hl, by simpa using rv⟩) (fun b u z => by have z' : (none : Option HO) = some u := z; cases z') (fun b z => absurd rfl z) fun z => absurd rfl z
  | none =>
    refine core (fun b => if b = a then some (.frz { cls := .type "list", data := .seq vs.toArray } (.lst (ns.map V.int))) else none) (fun b => ?_) (.inl (.inr ⟨{ cls := .type "list", data := .seq vs.toArray }, if_pos rfl⟩)) (fun b u z => ?_) (fun b z => ?_) fun _ => hk
    · by_cases hb : b = a
      · exact .inr ⟨_, _, if_pos hb⟩
      · exact .inl (if_neg hb)
    · by_cases hb : b = a
      · have z' := (if_pos hb).symm.trans z
        cases z'
        subst hb
        exact ⟨ha, by rw [List.length_map]; exact hl, vs, _, rv, ha⟩
      · have z' := (if_neg hb).symm.trans z
        cases z'
    · by_cases hb : b = a
      · exact hb
      · exact absurd (if_neg hb) z
end L2

namespace L2
open PySem PySem.Spec PyProof.Rows

abbrev KOf {K : PySem.W.Frag} {h : Heap} (_ : K.In h) : PySem.W.Frag := K


theorem walk_of {l : PySem.W.OpenLaw} {n k : Nat} {q : Program} {loose : List Str} {XP : (Str → Option Value) → Heap → Prop} {YP : World → Heap → Prop} {d : DefRec} {K : Params → PySem.W.Frag} {CX : World → CXT} {sp : World → Sp} {x : Str}
    (hn : l.most = some n) (hn2 : n ≤ sizeLine) (hdf : d.params.defaults = []) (hr : Room k callerA)
    (hY : ∀ (w : World) (h : Heap), YP w h → (K w.params).In h)
    (F : ∀ (w : World) (mg : Str → Option Value) (fa : Addr) (h : Heap), (K w.params).In h → h.Ns mainGlobals mg → mg d.name = some (.ref fa) →
      ∃ fd : FuncData, (∀ (s : Shared) (u : Value), BindsTo s fd ⟨[u], []⟩ [(x, u)]) ∧
        ∀ base : Heap, (K w.params).In base → base.Ns mainGlobals mg → FnOk l.prog w (K w.params) mg base (CX w) k fa fd [x] (sp w))
    (hsp : ∀ (w : World) (H : Hp) (a : Addr) (ns : List Int), ns.length ≤ n → Only H → SqL (K w.params) H a (ns.map V.int) → sp w [.ref a] H (fun v _ => v = .bl true) fun _ _ _ => False)
    (hCX : ∀ (w : World) (H : Hp) (s : Shared) (e : Value) (s' : Shared), CX w [] H s (fun _ _ _ => False) e s' → False) :
    PySem.W.WalkO q loose XP YP l.row.toRowW d [] (fun f vs => PySem.call f vs) := by
  refine Att.attach_call hn hdf fun w s₀ s₁ mg mb fa o pm cd doc a vs ns G Y ho hd hcd hmg hobj hints hlen hg => ?_
  have KX := hY w _ Y
  obtain ⟨fd, hb, hF⟩ := F w mg fa _ KX G.T.g hmg
  exact law_call KX G.T.g G.T.b G.T.builtins G.T.nolimit hg hobj hints (Nat.le_trans hlen hn2) hr hF hb (fun H hO hS => hsp w H a ns hlen hO hS) fun H e s' => hCX w H s₁ e s'

end L2




namespace L2
open PySem PySem.Spec PyProof.Rows



def inClass (s : Stmt) (j : Nat) : Stmt := match s with
  | .ClassDef _ _ _ body _ _ _ _ _ _ _ => body.getD j (.Pass ⟨0, 0, 0, 0⟩)
  | _ => .Pass ⟨0, 0, 0, 0⟩
def defArgs (s : Stmt) : Arguments := match s with
  | .FunctionDef _ a _ _ _ _ _ _ _ _ => a
  | _ => { posonlyargs := [], args := [], vararg := none, kwonlyargs := [], kw_defaults := [], kwarg := none, defaults := [] }
def defBody (s : Stmt) : List Stmt := match s with
  | .FunctionDef _ _ b _ _ _ _ _ _ _ => b
  | _ => []
def defScope (s : Stmt) : Scope := match s with
  | .FunctionDef _ _ _ _ _ _ sc _ _ _ => sc
  | _ => { kind := .function, names := [], isGenerator := false, isCoroutine := false }


abbrev CX0 : CXT := fun _ _ _ _ _ _ => False
abbrev E0 : XK := fun _ _ _ => False
theorem pass0 {X : Cx} : Passes CX0 X E0 := fun _ _ _ _ _ _ _ h => h.elim


structure Fun (K : PySem.W.Frag) (x qual : Str) (st : Stmt) (f : Addr) (fd : FuncData) : Prop where
  ex : ∃ (oc : Value) (od : Option Addr) (kV doc pm : Value) (an : Option Addr) (cdv ct : Value) (osl : Array (Option Value)),
    fd = PySem.W.fnOf x qual (defArgs st) (defBody st) (defScope st) .none kV doc pm an cdv ct ∧ K.lookup f = some ⟨oc, od, .func fd, osl⟩ ∧ PySem.W.codeIn K cdv qual = true
  kp : PySem.W.keepIn K (.ref f) = true
section
variable {P : Program} {w : World} {K : PySem.W.Frag} {mg : Str → Option Value} {base : Heap}

theorem Fun.ok {x qual : Str} {st : Stmt} {f : Addr} {fd : FuncData} {N ps : List Str} {k : Nat} {sp : Sp} (F : Fun K x qual st f fd) (S : FnScope N ps (defScope st)) (len : ∀ vs H Q E, sp vs H Q E → vs.length = ps.length)
    (hbody : ∀ (cdv : Value) (A : Around) (outer : List Env) (s : Shared) (H : Hp) (vs : List V) (Q : VK) (E : XK), Room k (A.deeper (envOfC qual (defScope st) s.heap.objs.size f cdv)) → sp vs H Q E →
      ∃ t, PSs (cxOf CX0 P w K mg base N qual (defScope st) f cdv A outer s H E).nox (defBody st) t ∧ t { nx := fun _ H' => Q .non H', rt := Q } (start N vs) H) : FnOk P w K mg base CX0 (k + 1) f fd ps sp := by
  obtain ⟨oc, od, kV, doc, pm, an, cdv, ct, osl, rfl, lk, hcd⟩ := F.ex
  refine fn_of lk hcd S len fun A outer s H vs Q E hr hsp => ?_
  obtain ⟨t, h, q⟩ := hbody cdv A outer s H vs Q E hr hsp
  exact ⟨t, h.nox, q⟩

theorem Fun.binds {x qual : Str} {st : Stmt} {f : Addr} {fd : FuncData} {ps : List Str} (F : Fun K x qual st f fd)
    (h : ∀ (kV doc pm : Value) (an : Option Addr) (cdv ct : Value) (us : List Value), us.length = ps.length → bindArgs (PySem.W.fnOf x qual (defArgs st) (defBody st) (defScope st) .none kV doc pm an cdv ct) ⟨us, []⟩ = pure (ps.zip us)) : Binds K fd ps [] := by
  obtain ⟨oc, od, kV, doc, pm, an, cdv, ct, osl, rfl, lk, hcd⟩ := F.ex
  exact .all (h kV doc pm an cdv ct)
theorem fun_mk {x qual : Str} {st : Stmt} {f : Addr} {oc : Value} {od an : Option Addr} {osl : Array (Option Value)} {kV doc pm cdv ct : Value} (l : K.lookup f = some ⟨oc, od, .func (PySem.W.fnOf x qual (defArgs st) (defBody st) (defScope st) .none kV doc pm an cdv ct), osl⟩)
    (c : PySem.W.codeIn K cdv qual = true) (k : PySem.W.keepIn K (.ref f) = true) : Fun K x qual st f (PySem.W.fnOf x qual (defArgs st) (defBody st) (defScope st) .none kV doc pm an cdv ct) := ⟨⟨oc, od, kV, doc, pm, an, cdv, ct, osl, rfl, l, c⟩, k⟩
end
theorem hu_of {A : Around} {k : Nat} (hr : Room k A) : A.units + 1 < cLine := Nat.lt_of_le_of_lt (Nat.add_le_add_left (by decide : 1 ≤ 64) _) hr.units
section
variable {X : Cx}
theorem pv (i : Nat) {x : Str} {pos : Pos} (hN : X.N[i]? = some x := by rfl) (hv : Vis X.env.scope x := by first | exact Or.inl rfl | exact Or.inr (Or.inl rfl) | exact Or.inr (Or.inr rfl)) (hd : (x == ("__debug__" : Str)) = false := by decide)
    (hcd : (x == ("__classdict__" : Str)) = false := by decide) : PE X (.Name x pos) (tVar i) := pe_var hN hv hd hcd
end


theorem iteF {A B : Prop} (h : B) : if false = true then A else B := by
  rw [if_neg Bool.false_ne_true]
  exact h
theorem iteT {A B : Prop} (h : A) : if true = true then A else B := by
  rw [if_pos rfl]
  exact h
theorem ite2 {c A B : Prop} [Decidable c] (h1 : c → A) (h2 : ¬ c → B) : if c then A else B := by
  by_cases h : c
  · rw [if_pos h]
    exact h1 h
  · rw [if_neg h]
    exact h2 h
def Same (H H' : Hp) : Prop := ∀ b o, H b = some o → H' b = some o
theorem Same.refl (H : Hp) : Same H H := fun _ _ h => h
theorem Same.trans {H H1 H2 : Hp} (a : Same H H1) (b : Same H1 H2) : Same H H2 := fun c o h => b c o (a c o h)
theorem Same.free {H H' : Hp} (e : Same H H') {l : Addr} (h : H' l = Option.none) : H l = Option.none := by
  cases q : H l with
  | none => rfl
  | some o =>
    rw [e l o q] at h
    cases h
theorem Same.seq {K : PySem.W.Frag} {H H' : Hp} {a : Addr} {xs : List V} (e : Same H H') (h : SqL K H a xs) : SqL K H' a xs := by
  rcases h with (h | ⟨o, h⟩) | h
  · exact .inl (.inl (e _ _ h))
  · exact .inl (.inr ⟨o, e _ _ h⟩)
  · exact .inr h

end L2


set_option linter.all false
set_option maxRecDepth 100000
set_option maxHeartbeats 4000000
namespace L2
open PySem PySem.Spec PyProof.Rows

theorem ObjOk.at_ {P : Program} {w : World} {H : Hp} {h : Heap} {a : Addr} {o : HO} (x : ObjOk P w H h a o) : ∃ u, h.get? a = some u := by
  cases o with
  | lst xs => obtain ⟨_, _, _, _, e⟩ := x; exact ⟨_, e⟩
  | tup xs => obtain ⟨_, _, _, o, e, _⟩ := x; exact ⟨_, e⟩
  | dK kvs => obtain ⟨_, _, _, _, o, _, _, e, _⟩ := x; exact ⟨_, e⟩
  | dT kvs => obtain ⟨_, _, _, _, o, _, _, e, _⟩ := x; exact ⟨_, e⟩
  | set S n => obtain ⟨o, _, _, _, e, _⟩ := x; exact ⟨_, e⟩
  | ins C dx fs => obtain ⟨_, _, _, e, _⟩ := x; exact ⟨_, e⟩
  | own y => obtain ⟨o, e⟩ := x; exact ⟨_, e⟩
  | xd fs => obtain ⟨_, ⟨o, _, _, e, _⟩, _⟩ := x; exact ⟨_, e⟩
  | rng lo hi => obtain ⟨_, _, _, e⟩ := x; exact ⟨_, e⟩
  | frz ob u => obtain ⟨e, _⟩ := x; exact ⟨_, e⟩
  | tbl ps => exact ⟨_, (show h.get? a = some _ from x)⟩
  | met f y => exact ⟨_, (show h.get? a = some _ from x)⟩
  | ext φ => obtain ⟨_, e, _⟩ := x; exact e


structure Fly (P : Program) (w : World) (l : List Env) (H : Hp) (s : Shared) (e : Addr) (cls : Value) (H' : Hp) (s' : Shared) : Prop where
  os : s'.os = s.os
  bare : AllBare s'.gens
  un : Un (frs l) [] H H' s.heap s'.heap
  hok : HOk P w H' s'.heap
  new : H' e = none
  fly : ∃ B a0, Heap.FlyingW B l e cls a0 s'.heap ∧ (∀ b u, H' b = some u → ∃ o, B.get? b = some o) ∧ ∀ b o, s.heap.get? b = some o → b ∉ frs l → ∃ o', B.get? b = some o'
def CXo (P : Program) (w : World) : CXT := fun l H s E ev s' => ∃ e cls H', ev = .ref e ∧ Fly P w l H s e cls H' s' ∧ E cls none H'

theorem fly_un {fs : List Addr} {H H' : Hp} {h h' h'' B : Heap} (un : Un fs [] H H' h h') (sB : B.StaysIn h') (sB' : B.StaysIn h'') (up : h'.UpToSlots h'')
    (fr : ∀ b ∈ fs, ∃ o, h'.get? b = some o ∧ ∀ vs, o.data ≠ .fields vs) (old : ∀ b o, h.get? b = some o → b ∉ fs → ∃ o', B.get? b = some o') : Un fs [] H H' h h'' where
  keep := fun b o q n hb hx => by
    have e1 := un.keep b o q n hb hx
    obtain ⟨o', eB⟩ := old b o q hb
    have e2 := sB b o' eB
    rw [e1] at e2; cases e2
    exact sB' b o eB
  slot := fun b o q n hb hx => by
    obtain ⟨sl, e1⟩ := un.slot b o q n hb hx
    obtain ⟨o', e2, nf⟩ := fr b hb
    rw [e1] at e2; cases e2
    obtain ⟨sl', e3⟩ := up b _ e1 nf
    exact ⟨sl', e3⟩
  free := un.free
  there := fun b o q hx => by
    by_cases hb : b ∈ fs
    · obtain ⟨o', e2, nf⟩ := fr b hb
      obtain ⟨sl', e3⟩ := up b _ e2 nf
      exact ⟨_, e3⟩
    · obtain ⟨o', eB⟩ := old b o q hb
      exact ⟨o', sB' b o' eB⟩
  tups := un.tups
  frzs := un.frzs
  tbls := un.tbls
theorem fly_hok {P : Program} {w : World} {H : Hp} {h h' B : Heap} (ok : HOk P w H h) (sB : B.StaysIn h) (sB' : B.StaysIn h') (tr : ∀ b u, H b = some u → ∃ o, B.get? b = some o) : HOk P w H h' := fun a o ea =>
  (ok a o ea).stay (fun b u hb eb => by
    have tb : ∃ v, H b = some v := hb.elim (fun z => ⟨o, by rw [z]; exact ea⟩) fun z => ⟨_, z⟩
    obtain ⟨v, hv⟩ := tb
    obtain ⟨o', eB⟩ := tr b v hv
    have e2 := sB b o' eB
    rw [eb] at e2; cases e2
    exact sB' b u eB) (fun _ z => z) fun _ _ z => z

theorem un_under {fs fs' : List Addr} {L : Addr} {H H1 H2 : Hp} {h h1 h2 : Heap} (a : Un fs [] H H1 h h1) (b : Un fs' [] H1 H2 h1 h2) (sub : ∀ x ∈ fs', x = L ∨ x ∈ fs) (sup : ∀ x ∈ fs, x ∈ fs') (hL : h.objs.size ≤ L) : Un fs [] H H2 h h2 := by
  have nL : ∀ c o, h.get? c = some o → c ≠ L := fun c o q z => absurd (Heap.lt_size q) (by rw [z]; exact Nat.not_lt.mpr hL)
  have no : ∀ c o, h.get? c = some o → c ∉ fs → c ∉ fs' := fun c o q n z => (sub c z).elim (nL c o q) n
  exact ⟨fun c o q n hc hx => b.keep c o (a.keep c o q n hc hx) (a.free c o q n hx) (no c o q hc) hx,
    fun c o q n hc hx => by
      obtain ⟨sl, e1⟩ := a.slot c o q n hc hx
      obtain ⟨sl', e2⟩ := b.slot c _ e1 (a.free c o q n hx) (sup c hc) hx
      exact ⟨sl', e2⟩,
    fun c o q n hx => by
      obtain ⟨o', e1⟩ := a.there c o q hx
      exact b.free c o' e1 (a.free c o q n hx) hx,
    fun c o q hx => by
      obtain ⟨o', e1⟩ := a.there c o q hx
      exact b.there c o' e1 hx,
    fun c xs q => b.tups c xs (a.tups c xs q), fun c ob xs q => b.frzs c ob xs (a.frzs c ob xs q),
    fun c ps q => by
      obtain ⟨m1, e1⟩ := a.tbls c ps q
      obtain ⟨m2, e2⟩ := b.tbls c _ e1
      exact ⟨m1 ++ m2, by rw [e2, Array.append_assoc]⟩⟩


structure Sink (X : Cx) (E : XK) : Prop where
  made : ∀ (pins : List (Addr × Obj)) (σ : St) (H : Hp) (s : Shared) (e : Addr) (cls : Value) (args : List Value) (h' : Heap), Inv X pins σ H s → Heap.MadeExcOf s.heap h' e cls args → E cls none H → X.xe (.ref e) { s with heap := h' }
  on : Passes (CXo X.prog X.w) X E


theorem made_part {X : Cx} {pins : List (Addr × Obj)} {σ : St} {H : Hp} {s : Shared} (I : Inv X pins σ H s) :
    (PySem.W.hideAll s.heap (frs X.stack)).StaysIn s.heap ∧ s.heap.FunFrames (PySem.W.hideAll s.heap (frs X.stack)) X.stack ∧ (∀ b o, s.heap.get? b = some o → b ∉ frs X.stack → (PySem.W.hideAll s.heap (frs X.stack)).get? b = some o) ∧
      ∀ b u, H b = some u → ∃ o, (PySem.W.hideAll s.heap (frs X.stack)).get? b = some o := by
  refine ⟨fun b o q => PySem.W.of_hideAll _ q, PySem.W.funFrames_hide I.stack fun env he b hb => List.mem_filterMap.mpr ⟨env, he, hb⟩, fun b o q hb => PySem.W.hideAll_get _ q hb, fun b u q => ?_⟩
  obtain ⟨o, ho⟩ := (I.hok b u q).at_
  exact ⟨o, PySem.W.hideAll_get _ ho fun z => by rw [I.stkFree b z] at q; cases q⟩

theorem sink_def {P : Program} {w : World} {K : PySem.W.Frag} {mg : Str → Option Value} {base : Heap} {N : List Str} {qual : Str} {scope : Scope} {f : Addr} {cd : Value} {A : Around} {outer : List Env} {s : Shared} {H : Hp} {E : XK} :
    Sink (cxOf (CXo P w) P w K mg base N qual scope f cd A outer s H E) E where
  made := by
    intro pins σ H1 s1 e cls args h' I hx hE
    obtain ⟨sB, ff, inB, tr⟩ := made_part I
    show wpAny _ _ (leaving _ (.ref e)) _ _ _
    refine wpAny_leaves_madeW (base := PySem.W.hideAll s1.heap (frs (cxOf (CXo P w) P w K mg base N qual scope f cd A outer s H E).stack)) (h := s1.heap) I.ok.frames rfl sB ff hx fun h'' t x1 x2 x3 x4 => ?_
    have sB1 : (PySem.W.hideAll s1.heap (frs (cxOf (CXo P w) P w K mg base N qual scope f cd A outer s H E).stack)).StaysIn h' := fun b o q => hx.keeps b o (sB b o q)
    have un1 : Un (frs outer) [] H H1 s.heap s1.heap := I.base
    have old : ∀ b o, s.heap.get? b = some o → b ∉ frs outer → ∃ o', (PySem.W.hideAll s1.heap (frs (cxOf (CXo P w) P w K mg base N qual scope f cd A outer s H E).stack)).get? b = some o' := fun b o q hb => by
      obtain ⟨o', e1⟩ := un1.there b o q (by simp)
      refine ⟨o', inB b o' e1 fun z => ?_⟩
      rcases List.mem_cons.mp (I.stkSub b z) with z | z
      · exact absurd (Heap.lt_size q) (by rw [z]; exact Nat.lt_irrefl _)
      · exact hb z
    have fr : ∀ b ∈ frs outer, ∃ o, h'.get? b = some o ∧ ∀ vs, o.data ≠ .fields vs := fun b hb => by
      obtain ⟨_, o, ho, nf⟩ := I.funs.mem hb
      exact ⟨o, hx.keeps b o ho, nf⟩
    refine ⟨e, cls, H1, rfl, ⟨I.os, I.bare, fly_un (un1.trans (Un.kept hx.keeps)) sB1 x1.1 x4 fr old, fly_hok (I.hok.kept hx.keeps) sB1 x1.1 tr, ?_, _, _, x1, tr, old⟩, hE⟩
    cases q : H1 e with
    | none => rfl
    | some u =>
      obtain ⟨o, ho⟩ := (I.hok e u q).at_
      rw [hx.new] at ho; cases ho
  on := by
    intro pins σ H1 s1 ev s' I hcx
    obtain ⟨e, cls, H', rfl, F, hE⟩ := hcx
    obtain ⟨B, a0, fl, tr, old⟩ := F.fly
    show wpAny _ _ (leaving _ (.ref e)) _ _ _
    refine wpAny_leaves_onW I.ok.frames rfl fl fun h'' x1 x4 => ?_
    have un1 : Un (frs outer) [] H H1 s.heap s1.heap := I.base
    have sub : ∀ x ∈ frs (cxOf (CXo P w) P w K mg base N qual scope f cd A outer s H E).stack, x = s.heap.objs.size ∨ x ∈ frs outer := fun x hx => List.mem_cons.mp (I.stkSub x hx)
    have sup : ∀ x ∈ frs outer, x ∈ frs (cxOf (CXo P w) P w K mg base N qual scope f cd A outer s H E).stack := fun x hx => List.mem_cons_of_mem _ hx
    have un2 : Un (frs outer) [] H H' s.heap s'.heap := un_under un1 F.un sub sup (Nat.le_refl _)
    have old' : ∀ b o, s.heap.get? b = some o → b ∉ frs outer → ∃ o', B.get? b = some o' := fun b o q hb => by
      obtain ⟨o', e1⟩ := un1.there b o q (by simp)
      refine old b o' e1 fun z => ?_
      rcases sub b z with z | z
      · exact absurd (Heap.lt_size q) (by rw [z]; exact Nat.lt_irrefl _)
      · exact hb z
    have fr : ∀ b ∈ frs outer, ∃ o, s'.heap.get? b = some o ∧ ∀ vs, o.data ≠ .fields vs := fun b hb => by
      obtain ⟨_, o, ho, nf⟩ := fl.2.2.1.mem (sup b hb)
      exact ⟨o, ho, nf⟩
    exact ⟨e, cls, H', rfl, ⟨F.os.trans I.os, F.bare, fly_un un2 fl.1 x1.1 x4 fr old', fly_hok F.hok fl.1 x1.1 tr, F.new, B, a0, x1, tr, old'⟩, hE⟩


abbrev bmV : List Value := [.type "ValueError", .type "Exception", .type "BaseException", .type "object"]
abbrev newV : String := "ValueError.__new__"

def Exc (K : PySem.W.Frag) (C : Addr) : Prop := PySem.W.excIn K C bmV newV = true
theorem exc_obj {K : PySem.W.Frag} {h : Heap} {C : Addr} {bmB : List Value} {newId : String} (X : K.In h) (q : PySem.W.excIn K C bmB newId = true) :
    ∃ bm N nm qn bs hdct sn sub ab col dd k0 k1 k2 k3 k5 mN, h.get? C = some (excClassObj nm qn C N bs bm hdct sn sub ab col dd k0 k1 k2 k3 k5 newId) ∧ h.Ns N mN ∧ mN "__init__" = none ∧ OwnTail h bmB bm := by
  unfold PySem.W.excIn at q
  split at q
  · rename_i dd cd sl ho
    split at q
    · rename_i C' bm k0 k1 k2 k3 n k5 hm hs
      simp only [Bool.and_eq_true, beq_iff_eq, Bool.not_eq_true'] at q
      obtain ⟨⟨⟨⟨⟨rfl, rfl⟩, hdel⟩, ht⟩, hok⟩, hni⟩ := q
      obtain ⟨nm, bs, mro, ns, qn, hd, sn, sub, ab, col, del⟩ := cd
      dsimp only at hm hdel hok hni
      subst hm hdel
      have hsl : sl = #[k0, k1, k2, k3, some (.builtin n), k5] := by
        obtain ⟨l⟩ := sl
        simp only at hs
        rw [hs]
      subst hsl
      exact ⟨bm, ns, nm, qn, bs, hd, sn, sub, ab, col, dd, k0, k1, k2, k3, k5, _, X _ _ ho, .of_isNs (PySem.W.isNs_of_in X hok), PySem.W.nsMap_none_of_in X hok hni, PySem.W.tail_of_in X ht⟩
    · cases q
  · cases q
section
variable {X : Cx} {E : XK} {x : Str} {C : Addr} {e : Expr} {t : TA} {np cpos pos : Pos}
def tRaise (C : Addr) (E : XK) (t : TA) : TS := fun _ σ H => t σ H fun vs H1 => vs.length ≤ sizeLine ∧ E (.ref C) none H1
theorem ps_raise (S : Sink X E) (hq : Exc X.K C) (hc : X.calm = true) (hg : Gl X x) (hm : X.mg x = some (.ref C)) (ha : PA X [e] t) (hd : (x == ("__debug__" : Str)) = false := by decide)
    (he : starEach [e] X.env = (false, eval e X.env) :: starEach [] X.env := by rfl) (hplain : (backTo cpos (starEach [] X.env)).any (·.1) = false := by rfl) :
    PS X (.Raise (some (.Call (.Name x np) [e] [] cpos)) none pos) (tRaise C E t) := by
  intro pins s σ H D I h
  obtain ⟨tl, N, nm, q, bs, hdct, sn, sub, ab, col, dd, k0, k1, k2, k3, k5, mN, hC, hN, hni, T⟩ := exc_obj I.mod.kin hq
  refine wpAny_Raise_call_subT (C := C) (nm := nm) (q := q) (N := N) (bs := bs) (bm := tl) (hdct := hdct) (sn := sn) (sub := sub) (ab := ab) (col := col) (dd := dd) (k0 := k0) (k1 := k1) (k2 := k2) (k3 := k3) (k5 := k5)
    PySem.F.excBase_ValueError (mN := mN) (T.hasType PySem.F.excBase_ValueError.hasBase) (I.ok.hd hc) (by rw [he]; show (false || (backTo cpos (starEach [] X.env)).any (·.1)) = false; rw [hplain]; rfl) hni (ld_glob I hg hm ⟨rfl, ?_⟩ hd)
  have hA := ha cpos pins s σ H _ I h
  rw [he] at hA ⊢
  refine Calls.evalArgs_plain (thn hA fun us s2 ⟨vs, H2, I2, r, hz, hE⟩ => ⟨rfl, by rw [← r.length]; exact hz, I2.bk _ _ hC, hN.keeps I2.bk, T.keeps I2.bk, fun h' e hm' => ?_⟩)
  exact S.made pins σ H2 s2 e _ _ h' I2 hm' hE
end
end L2


set_option linter.all false
set_option maxRecDepth 100000
set_option maxHeartbeats 4000000
namespace L2
open PySem PySem.Spec PyProof.Rows


def XP (X : Cx) (pins : List (Addr × Obj)) (σ : St) (E : XK) (ev : Value) (s' : Shared) : Prop := ∃ (e : Addr) (cls : Value) (H' : Hp) (B : Heap) (a0 : Value), ev = .ref e ∧ Inv X pins σ H' s' ∧ Heap.FlyingW B X.stack e cls a0 s'.heap ∧ H' e = none ∧
  (∀ b u, H' b = some u → ∃ o, B.get? b = some o) ∧ (∀ b o, X.s₀.heap.get? b = some o → b ∉ frs X.stack → b ∉ X.ex → ∃ o', B.get? b = some o') ∧ (∀ p ∈ X.pn ++ pins, ∃ o', B.get? p.1 = some o') ∧ E cls none H'
section
variable {X : Cx} {pins : List (Addr × Obj)} {σ : St} {H : Hp} {s s' : Shared} {E : XK}
theorem Inv.notStk (I : Inv X pins σ H s) {b : Addr} (h1 : b ≠ X.env.locals) (h2 : b ∉ X.fs) : b ∉ frs X.stack := fun hb => (List.mem_cons.mp (I.stkSub b hb)).elim h1 h2
def xO (e : Addr) (cls : Value) : HO := .ext fun h => ∃ oe, h.get? e = some oe ∧ oe.cls = cls
end


def PEX (X : Cx) (e : Expr) (t : St → Hp → VK → XK → Prop) : Prop :=
  ∀ (pins : List (Addr × Obj)) (s : Shared) (σ : St) (H : Hp) (Q : VK) (E : XK), Inv X pins σ H s → t σ H Q E → wpAny (model X.prog X.w) X.A (eval e X.env) (EP X pins σ Q) (XP X pins σ E) s
def PSX (X : Cx) (st : Stmt) (t : Ends → (St → XK) → St → Hp → Prop) : Prop :=
  ∀ (pins : List (Addr × Obj)) (s : Shared) (σ : St) (H : Hp) (D : Ends) (E : St → XK), Inv X pins σ H s → t D E σ H → wpAny (model X.prog X.w) X.A (exec st X.env) (SP X pins D) (fun ev s' => ∃ σ', XP X pins σ' (E σ') ev s') s
def PSXs (X : Cx) (sts : List Stmt) (t : Ends → (St → XK) → St → Hp → Prop) : Prop :=
  ∀ (pins : List (Addr × Obj)) (s : Shared) (σ : St) (H : Hp) (D : Ends) (E : St → XK), Inv X pins σ H s → t D E σ H → wpAny (model X.prog X.w) X.A (execs sts X.env) (SP X pins D) (fun ev s' => ∃ σ', XP X pins σ' (E σ') ev s') s
section
variable {X : Cx} {k : Nat} {f : Addr} {fd : FuncData} {ps : List Str} {sp : Sp} {dvs : List V} {ds : List Value} {x : Str} {p pos : Pos} {e : Expr} {es : List Expr} {t : TA}
def tCallX (sp : Sp) (dvs : List V) (t : TA) : St → Hp → VK → XK → Prop := fun σ H Q E => t σ H fun vs H1 => sp (vs ++ dvs) H1 Q E
variable {te : St → Hp → VK → XK → Prop}
def tSetX (i : Nat) (te : St → Hp → VK → XK → Prop) : Ends → (St → XK) → St → Hp → Prop := fun D E σ H => te σ H (fun v H1 => D.nx (σ.set i (some v)) H1) (E σ)
def tExprX (te : St → Hp → VK → XK → Prop) : Ends → (St → XK) → St → Hp → Prop := fun D E σ H => te σ H (fun _ H1 => D.nx σ H1) (E σ)
end


abbrev Cx.caught (X : Cx) (e : Addr) : Cx := { X with A := X.A.mark (some (.ref e)), calm := false, xe := fun _ _ => False }
section
variable {X : Cx} {pins : List (Addr × Obj)} {σ : St} {H : Hp} {s : Shared}
theorem Inv.caught (I : Inv X pins σ H s) (e : Addr) : Inv (X.caught e) pins σ H s :=
  ⟨⟨I.ok.mod, I.ok.kind, I.ok.glob, I.ok.blt, I.ok.above, I.ok.inj, I.ok.has, I.ok.cab, fun z => absurd (show false = true from z) Bool.false_ne_true, I.ok.frames, I.ok.stk, I.ok.exf, I.ok.bs, I.ok.bsz, I.ok.noex, I.ok.exfs, I.ok.funs, I.ok.frf⟩, I.os, I.bare, I.base, I.loc, I.cell, I.free, I.freeC, I.pin, I.hok, I.len⟩
end

def tTry (K : PySem.W.Frag) (C : Addr) (i : Nat) (tb : Ends → (St → XK) → St → Hp → Prop) (ts : TS) : TS := fun D σ H => tb D (fun σ' cls _ H' => PySem.W.exmOne K cls (.ref C) = some true ∧ ∀ e, H' e = none →
  ts { nx := fun σ2 H2 => D.nx (σ2.set i none) H2, rt := D.rt, bk := fun σ2 H2 => D.bk (σ2.set i none) H2, ct := fun σ2 H2 => D.ct (σ2.set i none) H2 } (σ'.set i (some (.ref e))) (upd H' e (xO e cls))) σ H
end L2


set_option linter.all false
set_option maxRecDepth 100000
set_option maxHeartbeats 4000000
namespace L2
open PySem PySem.Spec PyProof.Rows


def Its (x : Str) : It := ⟨fun i _ => i < x.cps.size, fun i H v H' => H' = H ∧ ∃ c, x.cps[i]? = some c ∧ v = .str ⟨#[c]⟩, fun i _ => i = x.cps.size⟩
abbrev keepsTuple : List String := ["enumerate", "zip", "dict_itemiterator", "dict_reverseitemiterator", "odict_iterator", "itertools.zip_longest", "itertools.pairwise"]
theorem turn_str {P : Program} {w : World} {K : PySem.W.Frag} {tg : Expr} {ty : String} {x : Str} {t : Tok} (it : Addr)
    (W : ∀ A : Around, A.handled = none → Walks P w A it [it] [it] x.cps.size (SignAt x) (fun i h => h.IsStrIter it ty x t i))
    (hn : keepsTuple.contains ty = false)
    (hself : ∀ (A : Around) (i : Nat) (s : Shared) (Q : Value → Shared → Prop) (E : Value → Shared → Prop), s.heap.IsStrIter it ty x t i → Q (.ref it) s → wpAny (model P w) A (pyIter (.ref it)) Q E s) :
    Turn P w K tg (Its x) [it] it (fun i h => h.IsStrIter it ty x t i) where
  mem := by simp
  obj := fun i h st b hb => by
    have eb : b = it := by simpa using hb
    subst eb
    obtain ⟨o, eo, _, d⟩ := st
    exact ⟨o, eo, fun v z => by rw [d] at z; cases z⟩
  keep := fun i h h' st k => by
    obtain ⟨o, eo, r⟩ := st
    exact ⟨o, k it (by simp) o eo, r⟩
  item := by
    intro X hP hw hK hc i pins s σ H E I hf st hg
    subst hP hw hK
    obtain ⟨f0, f1, f2, f3, f4, f5⟩ := hf it (by simp)
    refine (W X.A (I.ok.hd hc)).item i s _ _ hg st fun v h' tk hv st' kk => ?_
    obtain ⟨c, u, hcx, rfl⟩ := hv
    have I1 : Inv X pins σ H { s with heap := h', toks := tk } := I.turned (fun b o hb eo => kk b o (by simpa using hb) eo) f0 f1 f3 f4 f5
    obtain ⟨o, eo, c', d⟩ := id st'
    exact ⟨_, rfl, go_of (s := { s with heap := h', toks := tk }) eo c' d hn ⟨.str ⟨#[c]⟩, H, I1, ⟨u, rfl⟩, ⟨rfl, c, hcx, rfl⟩, st', fun b hb => (hf b hb).1⟩⟩
  done := by
    intro X hP hw hK hc i pins s σ H E I hf st hg
    subst hP hw hK
    obtain ⟨f0, f1, f2, f3, f4, f5⟩ := hf it (by simp)
    have ei : i = x.cps.size := hg
    subst ei
    exact (W X.A (I.ok.hd hc)).done s _ _ st fun h' tk kk => ⟨rfl, I.turned (fun b o hb eo => kk b o (by simpa using hb) eo) f0 f1 f3 f4 f5⟩
  self := fun A i s Q E st h => hself A i s Q E st h

section
variable {X : Cx} {tg : Expr}
def iStr (tl : TE) : TI := fun σ H R => tl σ H fun v H1 => ∃ x, v = .str x ∧ R (Its x) H1
theorem pi_str {l : Expr} {tl : TE} (hl : PE X l tl) : PI X tg l (iStr tl) := by
  intro pins s σ H R I h
  refine thn (hl pins s σ H _ I h) fun v s1 ⟨y, H1, I1, r1, q1⟩ => ?_
  obtain ⟨x, rfl, q⟩ := q1
  obtain ⟨t, rfl⟩ := r1
  have fp : ∀ b ∈ [s1.heap.objs.size], FpOk X pins H1 b := fun b hb => by
    have eb : b = s1.heap.objs.size := by simpa using hb
    subst eb
    exact I1.fpOk (Nat.le_refl _) (I1.hok.fresh (Nat.le_refl _))
  cases ha : x.cps.all (· < 128)
  · refine wpAny_pyIter_wide ha ?_
    exact ⟨s1.heap.objs.size, [s1.heap.objs.size], _, _, H1, rfl, I1.kept (t' := s1.toks) fun b o eo => Heap.get?_push_of_some _ eo,
      turn_str (ty := "str_iterator") (t := t) _ (fun A hA => Walks.strWide hA _ x t) (by decide) (fun _ _ _ _ _ st hq => wpAny_pyIter_striter_wide st hq), ⟨_, Heap.get?_push_size _ rfl, rfl, rfl⟩, fp, q⟩
  · refine wpAny_pyIter_ascii ha ?_
    exact ⟨s1.heap.objs.size, [s1.heap.objs.size], _, _, H1, rfl, I1.kept (t' := s1.toks) fun b o eo => Heap.get?_push_of_some _ eo,
      turn_str (ty := "str_ascii_iterator") (t := t) _ (fun A hA => Walks.strAscii hA _ x t) (by decide) (fun _ _ _ _ _ st hq => wpAny_pyIter_striter_ascii st hq), ⟨_, Heap.get?_push_size _ rfl, rfl, rfl⟩, fp, q⟩
end
abbrev cxComp (X : Cx) (N : List Str) (scope : Scope) (cl : List (Str × Addr)) (C : Addr) (s₀ : Shared) (H₀ : Hp) (ex : List Addr) (pn : List (Addr × Obj)) : Cx :=
  { X with N := N, s₀ := s₀, H₀ := H₀, env := compEnvC scope cl C X.env, outer := X.stack, stack := X.stack, ex := ex, fn := fun _ => false, pn := pn, xe := fun _ _ => False }

def PTs (X : Cx) (ifs : List Expr) (t : TT) : Prop :=
  ∀ (pins : List (Addr × Obj)) (s : Shared) (σ : St) (H : Hp) (Q : Bool → Hp → Prop), Inv X pins σ H s → t σ H Q →
    wpAny (model X.prog X.w) X.A (forIn ifs true fun c r => if r = true then do let ok ← isTrue c X.env (eval c X.env); pure (ForInStep.yield ok) else pure (ForInStep.yield r)) (TP X pins σ Q) X.xe s
def tYes : TT := fun _ H Q => Q true H
theorem pts_nil {X : Cx} : PTs X [] tYes := fun _ _ _ H _ I h => wpAny_tests_nil ⟨H, I, h⟩
theorem pts_one {X : Cx} {c : Expr} {t : TT} (h : PT X c t) : PTs X [c] t := fun pins s σ H Q I hw => wpAny_tests_one (h pins s σ H Q I hw)

def pick (ρ : List (Option Nat)) (σ : St) : St := ρ.map fun o => o.bind fun j => (σ[j]?).bind id

def CompOk (J : It) (g : TG) (tc : TT) (te : TE) (Q : VK) (l : Addr) (τ : St) (H1 : Hp) : Prop :=
  ∃ W : Nat → Nat → List V → St → Hp → Prop, (∃ m, W 0 m [] τ (upd H1 l (.lst []))) ∧ ∀ i m ys τ H2, W i m ys τ H2 →
    (J.stop i H2 ∧ Q (.ref l) H2) ∨ (J.go i H2 ∧ ∀ x H3, J.yld i H2 x H3 → g x τ H3 fun τ4 H4 => tc τ4 H4 fun b H5 =>
      if b = true then te τ4 H5 fun y H6 => H6 l = some (.lst ys) ∧ ys.length < sizeLine ∧ ∃ m', m' < m ∧ W (i + 1) m' (ys ++ [y]) τ4 (upd H6 l (.lst (ys ++ [y])))
      else ∃ m', m' < m ∧ W (i + 1) m' ys τ4 H5)
def tComp (ρ : List (Option Nat)) (wi : TI) (g : TG) (tc : TT) (te : TE) : TE := fun σ H Q => wi σ H fun J H1 => ∀ l, H1 l = none → CompOk J g tc te Q l (pick ρ σ) H1


theorem comp_loop {prog : Program} {w : World} {A : Around} {R : Result → Shared → Prop} {s : Shared} {elt target iter : Expr} {ifs : List Expr} {scope : Scope} {pos : Pos} {it acc : Value} {env : Env} (Iv : Nat → Shared → Prop)
    (turn : ∀ n s, Iv n s → wpAny (model prog w) A (pyNext it) (fun r s1 => match r with
      | none => R (.ok .next) s1
      | some v => wpAny (model prog w) A (letOwnedTupleGo target it v) (fun _ s1' => wpAny (model prog w) A (assign target env v) (fun _ s2 =>
          wpAny (model prog w) A (forIn ifs true fun c r => if r = true then do let ok ← isTrue c env (eval c env); pure (ForInStep.yield ok) else pure (ForInStep.yield r)) (fun ok s3 =>
            if ok = true then wpAny (model prog w) A (eval elt env) (fun x s4 =>
              wpAny (model prog w) A (call (.builtin "list.append") [acc, x]) (fun _ s5 => ∃ m, m < n ∧ Iv m s5) (fun _ _ => False) s4) (fun _ _ => False) s3
            else ∃ m, m < n ∧ Iv m s3) (fun _ _ => False) s2) (fun _ _ => False) s1') (fun _ _ => False) s1) (fun _ _ => False) s)
    (n : Nat) (h : Iv n s) : codeAny (model prog w) A (.compLoop (.ListComp elt [⟨target, iter, ifs, 0⟩] scope pos) 0 it acc env) R s := by
  refine codeAny_loop rfl Iv (fun n s hI => ?_) n h
  show wpAny _ A ((compTurn (.ListComp elt [⟨target, iter, ifs, 0⟩] scope pos) 0 it acc env).onRaise (fun x => do noteFrame x env; theTreesLotGoes x)) _ _ s
  refine wpAny_noted ?_
  rw [compTurn_list]
  have no : ∀ {P : Value → Shared → Prop} (e : Value) (s' : Shared), False → P e s' := fun _ _ z => z.elim
  refine wpAny_bind (wpAny_standAt (wpAny_bind (wpAny_mono (turn n s hI) (fun r s1 h1 => ?_) no)))
  cases r with
  | none => exact wpAny_pure h1
  | some v =>
    refine wpAny_bind (wpAny_mono h1 (fun _ s1' h1' => ?_) no)
    refine wpAny_bind (wpAny_mono h1' (fun _ s2 h2 => wpAny_bind (wpAny_mono h2 (fun ok s3 h3 => ?_) no)) no)
    cases ok with
    | false => exact wpAny_pure ⟨rfl, h3⟩
    | true => exact wpAny_bind (wpAny_bind (wpAny_mono h3 (fun x s4 h4 => wpAny_bind (wpAny_mono h4 (fun _ s5 h5 => wpAny_pure (wpAny_pure ⟨rfl, h5⟩)) no)) no))

section
variable {X : Cx} {elt tg iter : Expr} {ifs : List Expr} {scope : Scope} {cl : List (Str × Addr)} {N : List Str} {ρ : List (Option Nat)} {pos : Pos} {wi : TI} {g : TG} {tc : TT} {te : TE}


structure CompScope (X : Cx) (N : List Str) (ρ : List (Option Nat)) (scope : Scope) (cl : List (Str × Addr)) : Prop where
  clos : closureFor scope X.env = pure cl
  nocell : ∀ y ∈ scope.names, y.2 ≠ .cell
  kind : scope.kind = .function
  loc : ∀ y ∈ scope.names, y.2 = .local → scope.names.lookup y.1 = some .local
  sub : ∀ x c, cl.lookup x = some c → X.env.cells.lookup x = some c
  has : ∀ x, ((relabel scope X.env).names.lookup x = some .cell ∨ (relabel scope X.env).names.lookup x = some .free) → ∃ c, cl.lookup x = some c
  len : ρ.length = N.length
  from_ : ∀ (i j : Nat) (x : Str), N[i]? = some x → ρ[i]? = some (some j) → X.N[j]? = some x ∧ (X.env.kindOf x = some .cell ∨ X.env.kindOf x = some .free) ∧ ((relabel scope X.env).names.lookup x = some .cell ∨ (relabel scope X.env).names.lookup x = some .free)

theorem pick_get {ρ : List (Option Nat)} {σ : St} {i : Nat} {v : V} (h : (pick ρ σ)[i]? = some (some v)) : ∃ j, ρ[i]? = some (some j) ∧ σ[j]? = some (some v) := by
  unfold pick at h
  rw [List.getElem?_map] at h
  cases e : ρ[i]? with
  | none => rw [e] at h; cases h
  | some o =>
    rw [e] at h
    cases o with
    | none => cases h
    | some j =>
      refine ⟨j, rfl, ?_⟩
      simp only [Option.map_some, Option.bind_some, Option.some.injEq] at h
      cases e2 : σ[j]? with
      | none => rw [e2] at h; cases h
      | some w =>
        rw [e2] at h
        have h' : w = some v := h
        rw [h']

theorem inv_comp {pins : List (Addr × Obj)} {σ : St} {H : Hp} {s s' : Shared} {fp : List Addr} {h₁ : Heap} (S : CompScope X N ρ scope cl) (I : Inv X pins σ H s) (hf : ∀ b ∈ fp, FpOk X pins H b)
    (hlt : ∀ b ∈ fp, b < s.heap.objs.size) (hns : h₁.Ns s.heap.objs.size (fun _ => none)) (hsb : ∀ b o, s.heap.get? b = some o → h₁.get? b = some o) (es : s' = { s with heap := h₁ }) :
    Inv (cxComp X N scope cl s.heap.objs.size s H fp (X.pn ++ pins)) [] (pick ρ σ) H s' := by
  subst es
  have notStk : ∀ b, b ≠ X.env.locals → b ∉ X.fs → b ∉ frs X.stack := fun b h1 h2 hb => by
    rcases List.mem_cons.mp (I.stkSub b hb) with z | z
    · exact h1 z
    · exact h2 z
  have hC : X.env.locals ≠ s.heap.objs.size := Nat.ne_of_lt I.lt
  refine ⟨⟨I.ok.mod, S.kind, I.ok.glob, I.ok.blt, Nat.le_refl _, fun x y c h1 h2 => I.ok.inj x y c (S.sub x c h1) (S.sub y c h2), fun x hx => S.has x hx, fun x c hx _ => absurd (show false = true from hx) Bool.false_ne_true, I.ok.hd, I.ok.frames, .inl rfl,
    fun b hb => ⟨Nat.ne_of_lt (hlt b hb), fun x c h1 => (hf b hb).2.2.2.2.1 x c (S.sub x c h1)⟩, I.bs, Nat.le_trans I.ok.bsz I.sz, fun b o eo hb => ?_, fun b hb => notStk b (hf b hb).2.1 (hf b hb).2.2.1, I.stack, I.stkFree⟩,
    rfl, I.bare, Un.kept hsb, ⟨_, hns, fun i x v h1 h2 h3 => ?_⟩, fun x c h1 => ?_, I.hok.fresh (Nat.le_refl _), fun x c h1 => I.freeC x c (S.sub x c h1), fun p hp => ?_, I.hok.kept hsb, ?_⟩
  · rcases (hf b hb).2.2.2.1 with z | z
    · exact I.ok.noex b o eo z
    · exact absurd (Heap.lt_size (I.ok.bs b o eo).1) (Nat.not_lt.mpr z)
  · obtain ⟨j, hj, hv⟩ := pick_get h2
    obtain ⟨n1, n2, n3⟩ := S.from_ i j x h1 hj
    obtain ⟨m, hn, hl⟩ := I.loc
    have vis : Vis X.env.scope x := n2.elim (fun z => .inr (.inl z)) fun z => .inr (.inr z)
    obtain ⟨u, ru, lk⟩ := hl j x v n1 hv vis
    refine ⟨u, ru, .inr ⟨n3, ?_⟩⟩
    rcases lk with ⟨hk, _⟩ | ⟨_, c, hc, hcell⟩
    · rcases n2 with z | z
      · rw [z] at hk; cases hk
      · rw [z] at hk; cases hk
    · obtain ⟨c', hc'⟩ := S.has x n3
      have ec := S.sub x c' hc'
      rw [hc] at ec
      cases ec
      obtain ⟨o, ho, hd⟩ := hcell
      exact ⟨c, hc', o, hsb c o ho, hd⟩
  · obtain ⟨v, o, ho, hd⟩ := I.cell x c (S.sub x c h1)
    exact ⟨v, o, hsb c o ho, hd⟩
  · have hp' : p ∈ X.pn ++ pins := by simpa using hp
    obtain ⟨p1, p2, p3, p4, p5⟩ := I.pin p hp'
    exact ⟨hsb _ _ p1, p2, Nat.ne_of_lt (Heap.lt_size p1), notStk _ p3 p4, p5⟩
  · show (pick ρ σ).length = N.length
    unfold pick
    rw [List.length_map]
    exact S.len

theorem pe_comp (hc : X.calm = true) (S : CompScope X N ρ scope cl) (hi : PI X tg iter wi)
    (hg : ∀ C s₀ H₀ ex pn, PG (cxComp X N scope cl C s₀ H₀ ex pn) tg g) (ht : ∀ C s₀ H₀ ex pn, PTs (cxComp X N scope cl C s₀ H₀ ex pn) ifs tc) (he : ∀ C s₀ H₀ ex pn, PE (cxComp X N scope cl C s₀ H₀ ex pn) elt te)
    (hs : ∀ x, foldedSetIterable iter X.env x = pure x := by intro _; rfl) : PE X (.ListComp elt [⟨tg, iter, ifs, 0⟩] scope pos) (tComp ρ wi g tc te) := by
  intro pins s σ H Q I h
  rw [eval_ListComp]
  refine wpAny_comprehension_free (use := none) rfl hs S.clos S.kind S.loc (thn (hi pins s σ H _ I h) fun v s1 h1 => thn h1 fun itv s2 h2 => ?_)
  obtain ⟨it, fp, tn, J, H2, e, I2, T, st2, f2, q2⟩ := h2
  subst e
  obtain ⟨W, ⟨m0, w0⟩, turn⟩ := q2 _ (I2.hok.fresh (Nat.le_refl _))
  refine wpAny_newObj_type (wpAny_newFunctionEnv S.nocell (by intro y hy; simp at hy) (fun h₁ hns₁ hsb₁ => ?_) S.kind)
  dsimp only at hns₁ hsb₁ ⊢
  have I3 : Inv X pins σ (upd H2 s2.heap.objs.size (.lst [])) { s2 with heap := s2.heap.push { cls := .type "list", dict := none, data := .seq ([] : List Value).toArray } } :=
    I2.laid (t' := s2.toks) (fun b u eo => Heap.get?_push_of_some _ eo) (Nat.le_refl _) ⟨by simp, [], 0, .nil, Heap.get?_push_size _ rfl⟩
  generalize hs3 : ({ s2 with heap := s2.heap.push { cls := .type "list", dict := none, data := .seq ([] : List Value).toArray } } : Shared) = s3 at I3
  have es3 : s2.heap.push { cls := .type "list", dict := none, data := .seq ([] : List Value).toArray } = s3.heap := by rw [← hs3]
  rw [es3] at hns₁ hsb₁ ⊢
  have f3 : ∀ b ∈ fp, FpOk X pins (upd H2 s2.heap.objs.size (.lst [])) b := fun b hb => by
    obtain ⟨o, eo, _⟩ := T.obj _ _ st2 b hb
    exact ⟨by rw [upd_ne (Nat.ne_of_lt (Heap.lt_size eo))]; exact (f2 b hb).1, (f2 b hb).2⟩
  have lt3 : ∀ b ∈ fp, b < s3.heap.objs.size := fun b hb => by
    obtain ⟨o, eo, _⟩ := T.obj _ _ st2 b hb
    rw [← es3, Heap.size_push]
    exact Nat.lt_succ_of_lt (Heap.lt_size eo)
  have old : ∀ b o, s3.heap.get? b = some o → h₁.get? b = some o := fun b o eo => hsb₁.extBut b o (Nat.ne_of_lt (Heap.lt_size eo)) (Heap.get?_push_of_some _ eo)
  have Ic : Inv (cxComp X N scope cl s3.heap.objs.size s3 (upd H2 s2.heap.objs.size (.lst [])) fp (X.pn ++ pins)) [] (pick ρ σ) (upd H2 s2.heap.objs.size (.lst [])) { s2 with heap := h₁, toks := s2.toks + ([] : List (Str × Value)).length } :=
    inv_comp S I3 f3 lt3 hns₁ old (by rw [← hs3] <;> rfl)
  have stat : ∀ {pl : List (Addr × Obj)} {H' : Hp}, pl = [] → (∀ b ∈ fp, H' b = none) → ∀ b ∈ fp, FpOk (cxComp X N scope cl s3.heap.objs.size s3 (upd H2 s2.heap.objs.size (.lst [])) fp (X.pn ++ pins)) pl H' b := fun {pl H'} epl hn b hb => by
    subst epl
    refine ⟨hn b hb, Nat.ne_of_lt (lt3 b hb), fun z => ?_, .inl hb, fun x c h1 => (f2 b hb).2.2.2.2.1 x c (S.sub x c h1), fun p hp => (f2 b hb).2.2.2.2.2 p (by simpa using hp)⟩
    rcases List.mem_cons.mp (I3.stkSub b z) with z | z
    · exact (f2 b hb).2.1 z
    · exact (f2 b hb).2.2.1 z
  have st4 : tn 0 h₁ := T.keep _ _ _ st2 fun b hb o eo => old b o (by rw [← es3]; exact Heap.get?_push_of_some _ eo)
  have loop : codeAny (model X.prog X.w) X.A (.compLoop (.ListComp elt [⟨tg, iter, ifs, 0⟩] scope pos) 0 (.ref it) (.ref s2.heap.objs.size) (compEnvC scope cl s3.heap.objs.size X.env))
      (compPost (model X.prog X.w) X.A X.xe none (EP X pins σ Q) (.ref s2.heap.objs.size) s3.heap.objs.size) { s2 with heap := h₁, toks := s2.toks + ([] : List (Str × Value)).length } := by
    refine comp_loop (fun n s' => ∃ i ys τ H', Inv (cxComp X N scope cl s3.heap.objs.size s3 (upd H2 s2.heap.objs.size (.lst [])) fp (X.pn ++ pins)) [] τ H' s' ∧ tn i s'.heap ∧ (∀ b ∈ fp, H' b = none) ∧ W i n ys τ H') ?_ m0
      ⟨0, [], _, _, Ic, st4, fun b hb => (f3 b hb).1, w0⟩
    rintro n s4 ⟨i, ys, τ, H4, I4, st, fr4, w4⟩
    rcases turn i n ys τ H4 w4 with ⟨stop, qn⟩ | ⟨go, step⟩
    · refine thn (T.done (cxComp X N scope cl s3.heap.objs.size s3 (upd H2 s2.heap.objs.size (.lst [])) fp (X.pn ++ pins)) rfl rfl rfl hc i [] s4 τ H4 _ I4 (stat rfl fr4) st stop) fun r s5 ⟨hr, I5⟩ => ?_
      subst hr
      obtain ⟨m5, hn5, _⟩ := I5.loc
      refine ⟨m5, hn5, fun h' hs' => ?_⟩
      have ne : ∀ b, b < s3.heap.objs.size → b ≠ s3.heap.objs.size := fun b hb => Nat.ne_of_lt hb
      have get' : ∀ b o, b ≠ s3.heap.objs.size → s5.heap.get? b = some o → h'.get? b = some o := fun b o hb eo => (hs'.2 b hb).trans eo
      have un : Un (frs X.stack) fp (upd H2 s2.heap.objs.size (.lst [])) H4 s3.heap h' :=
        ⟨fun b o eo n1 n2 n3 => get' b o (ne b (Heap.lt_size eo)) (I5.base.keep b o eo n1 n2 n3), fun b o eo n1 n2 n3 => let ⟨sl, z⟩ := I5.base.slot b o eo n1 n2 n3; ⟨sl, get' b _ (ne b (Heap.lt_size eo)) z⟩,
          I5.base.free, fun b o eo n1 => let ⟨o', z⟩ := I5.base.there b o eo n1; ⟨o', get' b _ (ne b (Heap.lt_size eo)) z⟩, I5.base.tups, I5.base.frzs, I5.base.tbls⟩
      have hok : HOk X.prog X.w H4 h' := fun a o ea => (I5.hok a o ea).stay (fun b u hb eo => get' b u (fun z => by
        have fr : H4 s3.heap.objs.size = none := I5.free
        rcases hb with rfl | hb
        · rw [z, fr] at ea; cases ea
        · rw [z, fr] at hb; cases hb) eo) (fun _ z => z) fun _ _ z => z
      have I6 : Inv X pins σ H4 { s5 with heap := h' } := I3.call' (s' := { s5 with heap := h' }) (ch := fp) (show s5.os = s3.os from I5.os) un hok I5.bare fun b hb => (f3 b hb).2.2.2
          |> fun z => ⟨(f3 b hb).2.2.2.1, (f3 b hb).2.1, (f3 b hb).2.2.2.2.1, (f3 b hb).2.2.2.2.2⟩
      exact ⟨.ref s2.heap.objs.size, H4, I6, rfl, qn⟩
    · refine thn (T.item (cxComp X N scope cl s3.heap.objs.size s3 (upd H2 s2.heap.objs.size (.lst [])) fp (X.pn ++ pins)) rfl rfl rfl hc i [] s4 τ H4 _ I4 (stat rfl fr4) st go) fun r s5 ⟨u, hr, h5⟩ => ?_
      subst hr
      refine thn h5 fun _ s6 ⟨x, H6, I6, r6, y6, st6, fr6⟩ => ?_
      have I6' := I6.pinned (stat rfl fr6) (T.obj _ _ st6)
      have again : ∀ {s9 : Shared} {τ9 : St} {H9 : Hp} {zs : List V} {m' : Nat}, Inv (cxComp X N scope cl s3.heap.objs.size s3 (upd H2 s2.heap.objs.size (.lst [])) fp (X.pn ++ pins)) ([] ++ pinsAt fp s6.heap) τ9 H9 s9 → m' < n → W (i + 1) m' zs τ9 H9 →
          ∃ m, m < n ∧ ∃ i ys τ H', Inv (cxComp X N scope cl s3.heap.objs.size s3 (upd H2 s2.heap.objs.size (.lst [])) fp (X.pn ++ pins)) [] τ H' s9 ∧ tn i s9.heap ∧ (∀ b ∈ fp, H' b = none) ∧ W i m ys τ H' := fun {s9 τ9 H9 zs m'} I9 hm w9 => by
        refine ⟨m', hm, i + 1, zs, τ9, H9, I9.unpinned, T.keep _ _ _ st6 fun b hb o eo => (I9.pin (b, o) (List.mem_append_right _ (List.mem_append_right _ (mem_pinsAt hb eo)))).1, fun b hb => ?_, w9⟩
        obtain ⟨o, eo, d⟩ := T.obj _ _ st6 b hb
        exact (I9.pin (b, o) (List.mem_append_right _ (List.mem_append_right _ (mem_pinsAt hb eo)))).2.1
      refine thn (hg _ _ _ _ _ _ s6 τ H6 x u _ I6' r6 (step x H6 y6)) fun _ s7 ⟨τ7, H7, I7, q7⟩ => ?_
      refine thn (ht _ _ _ _ _ _ s7 τ7 H7 _ I7 q7) fun ok s8 ⟨H8, I8, q8⟩ => ?_
      cases ok with
      | false =>
        rw [if_neg Bool.false_ne_true] at q8 ⊢
        obtain ⟨m', hm, w9⟩ := q8
        exact again I8 hm w9
      | true =>
        rw [if_pos rfl] at q8 ⊢
        refine thn (he _ _ _ _ _ _ s8 τ7 H8 _ I8 q8) fun y s9 ⟨z, H9, I9, r9, hl9, hz9, m', hm, w9⟩ => ?_
        refine thn (mt_append _ s9 τ7 H9 (.ref s2.heap.objs.size) [z] (.ref s2.heap.objs.size) [y] (fun _ H' => H' = upd H9 s2.heap.objs.size (.lst (ys ++ [z]))) I9 rfl (.cons r9 .nil) ⟨_, ys, z, rfl, rfl, hl9, hz9, rfl⟩) fun _ s10 ⟨_, H10, I10, _, e10⟩ => ?_
        subst e10
        exact again I10 hm w9
  exact codeAny_compStart_list loop (T.self _ 0 _ _ _ st4 loop)
end
end L2


set_option linter.all false
set_option maxRecDepth 100000
set_option maxHeartbeats 4000000
namespace L2
open PySem PySem.Spec PyProof.Rows

theorem CompScope.plain {X : Cx} {N : List Str} {ρ : List (Option Nat)} {scope : Scope} (hk : scope.kind = .function) (hn : ∀ y ∈ scope.names, y.2 ≠ .cell ∧ y.2 ≠ .free)
    (hl : ∀ y ∈ scope.names, y.2 = .local → scope.names.lookup y.1 = some .local) (hlen : ρ.length = N.length) (hρ : ∀ o ∈ ρ, o = none) : CompScope X N ρ scope [] := by
  have hre : (relabel scope X.env).names = scope.names := by
    unfold relabel
    refine map_eq_self fun y hy => ?_
    obtain ⟨n, k⟩ := y
    have hf : (k == NameKind.free) = false := by
      have := (hn _ hy).2
      cases k <;> first | rfl | exact absurd rfl this
    show (if (k == NameKind.free && X.env.scope.kind == .function && X.env.kindOf n == some .cell) = true then (n, NameKind.cell) else (n, k)) = (n, k)
    rw [hf]
    rfl
  refine ⟨closureFor_none fun y hy => (hn y hy).2, fun y hy => (hn y hy).1, hk, hl, fun x c h => (by cases h), fun x h => ?_, hlen, fun i j x _ h => ?_⟩
  · rw [hre] at h
    rcases h with h | h
    · exact absurd rfl (hn _ (PySem.mem_of_lookup h)).1
    · exact absurd rfl (hn _ (PySem.mem_of_lookup h)).2
  · have := hρ _ (List.mem_of_getElem? h)
    cases this


theorem comp_str {x : Str} {te : TE} {Q : VK} {H : Hp} {l : Addr} {τ : St} (f : Nat → V) (hl : H l = none) (hτ : 0 < τ.length) (hz : x.cps.size ≤ sizeLine)
    (ht : ∀ (τ' : St) (c : Nat) (H' : Hp) (R : VK), τ'[0]? = some (some (.str ⟨#[c]⟩)) → c ∈ x.cps.toList → R (f c) H' → te τ' H' R) (hq : Q (.ref l) (upd H l (.lst (x.cps.toList.map f)))) :
    CompOk (Its x) (gName 0) tYes te Q l τ H := by
  refine ⟨fun i m ys τ' H2 => m = x.cps.size - i ∧ i ≤ x.cps.size ∧ ys = (x.cps.toList.take i).map f ∧ 0 < τ'.length ∧ H2 = upd H l (.lst ys), ⟨x.cps.size, by simp, Nat.zero_le _, by simp, hτ, rfl⟩, ?_⟩
  rintro i m ys τ' H2 ⟨rfl, hi, rfl, hτ', rfl⟩
  by_cases hlt : i < x.cps.size
  · refine .inr ⟨hlt, fun v H3 hy => ?_⟩
    obtain ⟨eH, c, hc, rfl⟩ := hy
    subst eH
    have hc' : x.cps.toList[i]? = some c := by simpa using hc
    show te _ _ _
    refine ht _ c _ _ ?_ (List.mem_of_getElem? hc') ?_
    · rw [List.getElem?_set_self hτ']
    · have ht1 : (x.cps.toList.take (i + 1)).map f = (x.cps.toList.take i).map f ++ [f c] := by
        rw [List.take_add_one, hc', List.map_append]; rfl
      refine ⟨upd_same, ?_, x.cps.size - (i + 1), by omega, rfl, hlt, ht1.symm, by rw [List.length_set]; exact hτ', by rw [upd_upd]⟩
      rw [List.length_map, List.length_take]
      have : x.cps.toList.length = x.cps.size := by simp
      omega
  · have ei : i = x.cps.size := by omega
    subst ei
    refine .inl ⟨rfl, ?_⟩
    have : x.cps.toList.take x.cps.size = x.cps.toList := by
      apply List.take_of_length_le
      simp
    rw [this]
    exact hq

end L2


set_option linter.all false
set_option maxRecDepth 100000
set_option maxHeartbeats 4000000
namespace L2
open PySem PySem.Spec PyProof.Rows

def closL (cs : List (Str × Addr)) : List (Str × NameKind) → List (Str × Addr) → List (Str × Addr)
  | [], acc => acc
  | y :: r, acc => closL cs r (if y.2 == .free then (y.1, (cs.lookup y.1).getD 0) :: acc else acc)
theorem closL_val (cs : List (Str × Addr)) : ∀ (names : List (Str × NameKind)) (acc : List (Str × Addr)), (∀ p ∈ acc, p.2 = (cs.lookup p.1).getD 0) → ∀ p ∈ closL cs names acc, p.2 = (cs.lookup p.1).getD 0
  | [], acc, h => h
  | y :: r, acc, h => by
    unfold closL
    refine closL_val cs r _ ?_
    split
    · intro p hp
      rcases List.mem_cons.mp hp with rfl | hp
      · rfl
      · exact h p hp
    · exact h
theorem closL_mem (cs : List (Str × Addr)) : ∀ (names : List (Str × NameKind)) (acc : List (Str × Addr)), ∀ p ∈ closL cs names acc, p ∈ acc ∨ ∃ y ∈ names, y.1 = p.1 ∧ y.2 = .free
  | [], acc, p, hp => .inl hp
  | y :: r, acc, p, hp => by
    unfold closL at hp
    rcases closL_mem cs r _ p hp with h | ⟨z, hz, h⟩
    · split at h
      · rename_i hy
        rcases List.mem_cons.mp h with rfl | h
        · refine .inr ⟨y, List.mem_cons_self, rfl, ?_⟩
          cases hk : y.2 <;> rw [hk] at hy <;> first | rfl | cases hy
        · exact .inl h
      · exact .inl h
    · exact .inr ⟨z, List.mem_cons_of_mem _ hz, h⟩
theorem closL_acc (cs : List (Str × Addr)) : ∀ (names : List (Str × NameKind)) (acc : List (Str × Addr)), ∀ p ∈ acc, p ∈ closL cs names acc
  | [], acc, p, hp => hp
  | y :: r, acc, p, hp => by
    unfold closL
    refine closL_acc cs r _ p ?_
    split
    · exact List.mem_cons_of_mem _ hp
    · exact hp
theorem closL_has (cs : List (Str × Addr)) : ∀ (names : List (Str × NameKind)) (acc : List (Str × Addr)), ∀ y ∈ names, y.2 = .free → (y.1, (cs.lookup y.1).getD 0) ∈ closL cs names acc
  | [], acc, y, hy, _ => absurd hy (by simp)
  | z :: r, acc, y, hy, hf => by
    unfold closL
    rcases List.mem_cons.mp hy with rfl | hy
    · refine closL_acc cs r _ _ ?_
      rw [if_pos (by rw [hf]; rfl)]
      exact List.mem_cons_self
    · exact closL_has cs r _ y hy hf
theorem lookup_of_mem : ∀ {l : List (Str × Addr)} {x : Str} {c : Addr}, (x, c) ∈ l → ∃ d, l.lookup x = some d
  | [], _, _, h => absurd h (by simp)
  | (n, k) :: r, x, c, h => by
    rw [List.lookup_cons]
    cases hx : x == n with
    | true => exact ⟨k, rfl⟩
    | false =>
      rcases List.mem_cons.mp h with e | h
      · cases e; simp at hx
      · exact lookup_of_mem h
theorem closureFor_of {scope : Scope} {env : Env} (h : ∀ y ∈ scope.names, y.2 = .free → ∃ c, env.cells.lookup y.1 = some c) : closureFor scope env = pure (closL env.cells scope.names []) := by
  have go : ∀ (names : List (Str × NameKind)) (acc : List (Str × Addr)), (∀ y ∈ names, y.2 = .free → ∃ c, env.cells.lookup y.1 = some c) →
      (forIn (m := Sem) names acc (fun x r => if (x.2 == NameKind.free) = true then do let c ← cellOf env x.1; pure (ForInStep.yield ((x.1, c) :: r)) else pure (ForInStep.yield r))) = pure (closL env.cells names acc) := by
    intro names
    induction names with
    | nil => intro acc _; rfl
    | cons y r ih =>
      intro acc hy
      rw [List.forIn_cons]
      unfold closL
      by_cases hf : (y.2 == NameKind.free) = true
      · have hf' : y.2 = .free := by cases hk : y.2 <;> rw [hk] at hf <;> first | rfl | cases hf
        obtain ⟨c, hc⟩ := hy y List.mem_cons_self hf'
        have e : cellOf env y.1 = pure c := by unfold cellOf; rw [hc]
        rw [if_pos hf, if_pos hf, e, pure_bind, pure_bind, hc]
        exact ih _ fun z hz => hy z (List.mem_cons_of_mem _ hz)
      · rw [if_neg hf, if_neg hf, pure_bind]
        exact ih _ fun z hz => hy z (List.mem_cons_of_mem _ hz)
  have h2 := go scope.names [] h
  simp only [closureFor]
  refine Eq.trans (congrArg (· >>= _) ?_) (by rw [pure_bind])
  exact h2
theorem lookup_relab (g : Str → NameKind → NameKind) : ∀ (l : List (Str × NameKind)) (x : Str), (l.map fun y => (y.1, g y.1 y.2)).lookup x = (l.lookup x).map (g x)
  | [], _ => rfl
  | (n, k) :: r, x => by
    rw [List.map_cons, List.lookup_cons, List.lookup_cons]
    cases hx : x == n with
    | true =>
      have e : x = n := by simpa using hx
      subst e
      rfl
    | false => exact lookup_relab g r x
theorem relabel_lookup (scope : Scope) (env : Env) (x : Str) : (relabel scope env).names.lookup x = (scope.names.lookup x).map fun k => if (k == NameKind.free && env.scope.kind == .function && env.kindOf x == some .cell) = true then .cell else k := by
  rw [← lookup_relab (fun n k => if (k == NameKind.free && env.scope.kind == .function && env.kindOf n == some .cell) = true then .cell else k)]
  unfold relabel
  congr 1
  refine List.map_congr_left fun y _ => ?_
  obtain ⟨n, k⟩ := y
  show (if (k == NameKind.free && env.scope.kind == .function && env.kindOf n == some .cell) = true then (n, NameKind.cell) else (n, k)) = _
  dsimp only
  split <;> rfl

def fromOk (N : List Str) (ρ : List (Option Nat)) (XN : List Str) (dn sn : List (Str × NameKind)) : Bool :=
  (N.zip ρ).all fun p => match p.2 with
    | none => true
    | some j => decide (XN[j]? = some p.1) && decide (dn.lookup p.1 = some .cell) && decide (sn.lookup p.1 = some .free)
theorem CompScope.closes {X : Cx} {N : List Str} {ρ : List (Option Nat)} {scope : Scope} (XN : List Str) (dn : List (Str × NameKind)) (hXN : X.N = XN) (hdn : X.env.scope.names = dn) (hk : scope.kind = .function) (hX : X.env.scope.kind = .function) (hn : ∀ y ∈ scope.names, y.2 ≠ .cell)
    (hfree : ∀ y ∈ scope.names, y.2 = .free → dn.lookup y.1 = some .cell) (hcell : ∀ x, X.env.scope.names.lookup x = some .cell → ∃ c, X.env.cells.lookup x = some c) (hl : ∀ y ∈ scope.names, y.2 = .local → scope.names.lookup y.1 = some .local) (hlen : ρ.length = N.length)
    (hfrom : fromOk N ρ XN dn scope.names = true) : CompScope X N ρ scope (closL X.env.cells scope.names []) := by
  subst hXN hdn
  have kd : ∀ x, X.env.kindOf x = X.env.scope.names.lookup x := fun _ => rfl
  refine ⟨closureFor_of fun y hy hf => hcell _ (hfree y hy hf), hn, hk, hl, fun x c h => ?_, fun x h => ?_, hlen, fun i j x h1 h2 => ?_⟩
  · have hm := PySem.mem_of_lookup h
    have hv := closL_val X.env.cells scope.names [] (fun p hp => absurd hp (by simp)) _ hm
    rcases closL_mem X.env.cells scope.names [] _ hm with z | ⟨y, hy, e1, e2⟩
    · exact absurd z (by simp)
    · obtain ⟨d, hd⟩ := hcell _ (hfree y hy e2)
      have e1' : y.1 = x := e1
      rw [e1'] at hd
      have hv' : c = (X.env.cells.lookup x).getD 0 := hv
      rw [hd] at hv'
      rw [hd, hv']; rfl
  · rw [relabel_lookup] at h
    have hfr : scope.names.lookup x = some .free := by
      cases e : scope.names.lookup x with
      | none => rw [e] at h; rcases h with h | h <;> cases h
      | some k =>
        rw [e] at h
        cases k with
        | free => rfl
        | cell => exact absurd rfl (hn _ (PySem.mem_of_lookup e))
        | _ => rcases h with h | h <;> cases h
    exact lookup_of_mem (closL_has X.env.cells scope.names [] _ (PySem.mem_of_lookup hfr) rfl)
  · unfold fromOk at hfrom
    rw [List.all_eq_true] at hfrom
    have hm : (x, some j) ∈ N.zip ρ := by
      refine List.mem_of_getElem? (i := i) ?_
      rw [List.getElem?_zip_eq_some]
      exact ⟨h1, h2⟩
    have h3 := hfrom _ hm
    simp only [Bool.and_eq_true, decide_eq_true_eq] at h3
    obtain ⟨⟨a1, a2⟩, a3⟩ := h3
    refine ⟨a1, .inl (by rw [kd]; exact a2), .inl ?_⟩
    rw [relabel_lookup, a3, kd, a2, hX]
    rfl


end L2


set_option linter.all false
set_option maxRecDepth 100000
set_option maxHeartbeats 4000000
namespace L2
open PySem PySem.Spec PyProof.Rows
section
variable {X : Cx}
theorem vals_bl : ∀ {bs : List Bool} {us : List Value} {i : Nat} {v : Value}, Vals (bs.map V.bl) us → us[i]? = some v → ∃ b, bs[i]? = some b ∧ v = .bool b := by
  intro bs us i v r e
  cases e2 : (bs.map V.bl)[i]? with
  | none =>
    have := r.none_of e2
    rw [this] at e; cases e
  | some x =>
    obtain ⟨u, hu, ru⟩ := r.get e2
    rw [hu] at e; cases e
    rw [List.getElem?_map] at e2
    cases e3 : bs[i]? with
    | none => rw [e3] at e2; cases e2
    | some b =>
      rw [e3] at e2
      have e4 : V.bl b = x := Option.some.inj e2
      subst e4
      exact ⟨b, rfl, ru⟩
theorem range_all_get (bs : List Bool) : ((List.range bs.length).all fun i => (bs[i]?).getD true) = bs.all id := by
  rw [Bool.eq_iff_iff, List.all_eq_true, List.all_eq_true]
  constructor
  · intro h b hb
    obtain ⟨i, hi, rfl⟩ := List.mem_iff_getElem.mp hb
    have := h i (List.mem_range.mpr hi)
    rw [List.getElem?_eq_getElem hi] at this
    exact this
  · intro h i hi
    have hi' := List.mem_range.mp hi
    rw [List.getElem?_eq_getElem hi']
    exact h _ (List.getElem_mem hi')
theorem call_all (hc : X.calm = true) : CallR X (.builtin "all") (fun xs H Q => ∃ (p : Addr) (bs : List Bool), xs = [.ref p] ∧ SqL X.K H p (bs.map V.bl) ∧ Q (.bl (bs.all id)) H) := by
  intro pins s σ H xs us Q I r h
  obtain ⟨p, bs, rfl, hq, q⟩ := h
  obtain ⟨u, rfl, rx⟩ := vals1 r
  cases rx
  obtain ⟨its, rv, pl, hz⟩ := I.list hq
  have hl := pl.isList
  have hlt : p < s.heap.objs.size := by obtain ⟨_, e, _⟩ := hl; exact Heap.lt_size e
  have hlen : bs.length = its.length := by have := rv.length; rwa [List.length_map] at this
  refine call_all_walk (wpAny_pyIter_list hl ?_)
  refine ⟨s.heap.objs.size, [s.heap.objs.size, p], [s.heap.objs.size], its.toArray.size, _, _, fun i => (bs[i]?).getD true, rfl, Walks.list (A := X.A.in1) (I.ok.hd hc) _ p (Nat.ne_of_lt hlt) its.toArray,
    ⟨⟨_, Heap.get?_push_size _ rfl, rfl, rfl⟩, hl.push _⟩, fun i v s' Q' E' hP hQ => ?_, fun h' tk hk => ?_⟩
  · obtain ⟨b, eb, rfl⟩ := vals_bl rv (i := i) (v := v) (by simpa using hP)
    simp only [eb, Option.getD_some] at hQ
    exact wpAny_truthy_bool hQ
  · have e : ((List.range its.toArray.size).all fun i => (bs[i]?).getD true) = bs.all id := by
      rw [List.size_toArray, ← hlen]; exact range_all_get bs
    rw [e]
    exact ⟨.bl _, H, I.kept (t' := tk) fun b o eb => hk b o (fun z => by rw [List.mem_singleton.mp z] at eb; exact Nat.lt_irrefl _ (Heap.lt_size eb)) (Heap.get?_push_of_some _ eb), rfl, q⟩

def rJoin (K : PySem.W.Frag) : V → List V → Hp → VK → Prop := fun x vs H Q => ∃ (z : Str) (p : Addr) (ys : List Str), x = .str z ∧ vs = [.ref p] ∧ SqL K H p (ys.map V.str) ∧ (ys.map (·.length)).sum + ys.length * z.length ≤ 16777216 ∧ Q (.str (Txt.join z ys)) H
theorem sl_str : SlR X (fun x lo hi H Q => ∃ z, x = .str z ∧ z.length ≤ sizeLine ∧ Q (.str (Txt.slice z lo hi)) H) := by
  intro pins s σ H x v vl vu lo hi sl Q I rx hs pl pu h
  obtain ⟨z, rfl, hz, q⟩ := h
  obtain ⟨t, rfl⟩ := rx
  refine ⟨"str", _, F.slot_str_getitem.lookup, typeIs_str _ _ _, ?_⟩
  have fin : ∀ (t' : Tok) (k : Nat), EP X pins σ Q (.str (Txt.slice z lo hi) t') { s with toks := k } := fun t' k => ⟨.str _, H, I.tok _, ⟨_, rfl⟩, q⟩
  obtain ⟨o, ho, hc, hd⟩ := hs
  cases pl with
  | none =>
    cases pu with
    | none => exact wpAny_getItem_str_slice (l := none) (u := none) (st := none) ⟨o, ho, hc, hd⟩ rfl (post_val_or_str ⟨Nat.le_trans (Txt.slice_le z _ _) hz, fin⟩)
    | int j uj => exact wpAny_getItem_str_slice (l := none) (u := some (j, uj)) (st := none) ⟨o, ho, hc, hd⟩ rfl (post_val_or_str ⟨Nat.le_trans (Txt.slice_le z _ _) hz, fin⟩)
  | int i ui =>
    cases pu with
    | none => exact wpAny_getItem_str_slice (l := some (i, ui)) (u := none) (st := none) ⟨o, ho, hc, hd⟩ rfl (post_val_or_str ⟨Nat.le_trans (Txt.slice_le z _ _) hz, fin⟩)
    | int j uj => exact wpAny_getItem_str_slice (l := some (i, ui)) (u := some (j, uj)) (st := none) ⟨o, ho, hc, hd⟩ rfl (post_val_or_str ⟨Nat.le_trans (Txt.slice_le z _ _) hz, fin⟩)

theorem op_le_str : OpR X (compareOp .LtE) (fun x y H Q => ∃ i j, x = .str i ∧ y = .str j ∧ Q (.bl (!decide (j.cps.toList < i.cps.toList))) H) := by
  intro pins s σ H x y v u Q I rx ry h
  obtain ⟨i, j, rfl, rfl, q⟩ := h
  obtain ⟨t, rfl⟩ := rx
  obtain ⟨t', rfl⟩ := ry
  exact PySem.P.le_str (fin_bl I q rfl)


def clsV : V → Option Value
  | .ty n => some (.type n)
  | .ref a => some (.ref a)
  | _ => none
theorem clsV_rel {c : V} {u w : Value} (h : clsV c = some u) (r : RelV c w) : w = u := by
  cases c with
  | ty n => cases h; exact r
  | ref a => cases h; exact r
  | _ => cases h
theorem call_isi : CallR X (.builtin "isinstance") (fun xs H Q => ∃ x c t u b, xs = [x, c] ∧ TyOf X.K H x t ∧ clsV c = some u ∧ PySem.W.kitOne X.K t u = some b ∧ Q (.bl b) H) := by
  intro pins s σ H xs us Q I r h
  obtain ⟨x, c, t, u, b, rfl, ty, rc, e, q⟩ := h
  obtain ⟨v, w, rfl, rv, rw'⟩ := vals2 r
  have eu : w = u := clsV_rel rc rw'
  subst eu
  exact isinst_ok I rv ty e fun tk => ⟨.bl b, H, I.tok tk, rfl, q⟩
end



def NoT (H : Hp) : Prop := ∀ a, (∀ kvs, H a ≠ some (.dT kvs)) ∧ ∀ o kvs, H a ≠ some (.frz o (.dT kvs))
def plainH : HO → Bool
  | .dT _ => false
  | .frz _ u => plainH u
  | _ => true
theorem ObjOk.less {P : Program} {w : World} {H H' : Hp} {h h' : Heap} {a : Addr} {o : HO} (hp : plainH o = true) (x : ObjOk P w H' h' a o) (y : ObjOk P w H h a o) : ObjOk P w H h' a o := by
  induction o with
  | dT kvs => cases hp
  | ins C dx fs => exact ⟨y.1, x.2⟩
  | frz ob u ih => exact ⟨x.1, ih hp x.2 y.2⟩
  | lst xs => exact x
  | tup xs => exact x
  | dK kvs => exact x
  | set S n => exact x
  | own z => exact x
  | xd fs => exact x
  | rng lo hi => exact x
  | tbl ps => exact x
  | met f z => exact x
  | ext φ => exact x
section
variable {X : Cx} {pins : List (Addr × Obj)} {σ : St} {H H' : Hp} {s s' : Shared}
theorem Inv.less (hp : ∀ a o, H a = some o → plainH o = true) (I : Inv X pins σ H s) (I' : Inv X pins σ H' s') (sm : Same H H') : Inv X pins σ H s' :=
  ⟨I.ok, I'.os, I'.bare, ⟨I'.base.keep, I'.base.slot, I.base.free, I'.base.there, I.base.tups, I.base.frzs, I.base.tbls⟩, I'.loc, I'.cell, I.free, I.freeC, fun p hpp => ⟨(I'.pin p hpp).1, (I.pin p hpp).2⟩,
    fun a o ea => (I'.hok a o (sm a o ea)).less (hp a o ea) (I.hok a o ea), I.len⟩
def Plain (H : Hp) : Prop := ∀ a o, H a = some o → plainH o = true
theorem Plain.upd {H : Hp} {a : Addr} {o : HO} (h : Plain H) (ho : plainH o = true) : Plain (upd H a o) := fun b u e => by
  by_cases hb : b = a
  · subst hb; rw [upd_same] at e; cases e; exact ho
  · rw [upd_ne hb] at e; exact h b u e

def tPure (t : TE) : TE := fun σ H Q => Plain H ∧ t σ H fun v H' => Same H H' ∧ Q v H
theorem pe_pure {e : Expr} {t : TE} (h : PE X e t) : PE X e (tPure t) := by
  intro pins s σ H Q I ⟨hp, hw⟩
  exact thn (h pins s σ H _ I hw) fun v s1 ⟨x, H1, I1, r1, sm, q⟩ => ⟨x, H, I.less hp I1 sm, r1, q⟩
end
end L2


set_option linter.all false
set_option maxRecDepth 100000
set_option maxHeartbeats 4000000
namespace L2
open PySem PySem.Spec PyProof.Rows

structure ExcAt (K : PySem.W.Frag) (C : Addr) : Prop where
  ga : PySem.W.findIn K (.ref C) "__getattribute__" = some (some (.builtin "BaseException.__getattribute__"))
  gt : PySem.W.findIn K (.ref C) "__getattr__" = some none
  cl : PySem.W.findIn K (.ref C) "__class__" = some (some (.builtin "object.__class__"))
  mb : PySem.W.mroIn K C (.type "BaseException") = some true
  mo : PySem.W.mroIn K C (.type "object") = some true
  gs : PySem.W.specialIn K (.builtin "object.__class__") "__get__" = some (some (.builtin "getset_descriptor.__get__"))
  tk : PySem.W.takesIn K (.builtin "object.__class__") = some true
section
variable {prog : Program} {w : World} {A : Around} {E : Value → Shared → Prop} {s : Shared} {K : PySem.W.Frag} {e C : Addr}
end
section
variable {X : Cx}

end
end L2


set_option linter.all false
set_option maxRecDepth 100000
set_option maxHeartbeats 4000000
namespace L2
open PySem PySem.Spec PyProof.Rows
section
variable {X : Cx} (K : PySem.W.Frag) (hK : X.K = K)
include hK
theorem ix_listK : IxR X (rIxL K) := by subst hK; exact ix_list
theorem ix_tupK : IxR X (rIxT K) := by subst hK; exact ix_tup
theorem op_notIn_seqK : OpR X (compareOp .NotIn) (rIn K true) := by subst hK; exact op_notIn_seq
theorem call_len_seqK : CallR X (.builtin "len") (fun xs H Q => ∃ p ys, xs = [.ref p] ∧ (SqL K H p ys ∨ SqT K H p ys) ∧ Q (.int ys.length) H) := by subst hK; exact call_len_seq
theorem call_list_ofK : CallR X (.type "list") (fun xs H Q => ∃ p ys, xs = [.ref p] ∧ (SqL K H p ys ∨ SqT K H p ys) ∧ ∀ l, H l = none → Q (.ref l) (upd H l (.lst ys))) := by subst hK; exact call_list_of
theorem call_tuple_ofK : CallR X (.type "tuple") (fun xs H Q => ∃ p ys, xs = [.ref p] ∧ ((SqL K H p ys ∧ ∀ l, H l = none → Q (.ref l) (upd H l (.tup ys))) ∨ (SqT K H p ys ∧ Q (.ref p) H))) := by subst hK; exact call_tuple_of
theorem call_allK (hc : X.calm = true) : CallR X (.builtin "all") (fun xs H Q => ∃ (p : Addr) (bs : List Bool), xs = [.ref p] ∧ SqL K H p (bs.map V.bl) ∧ Q (.bl (bs.all id)) H) := by subst hK; exact call_all hc
theorem call_isiK : CallR X (.builtin "isinstance") (fun xs H Q => ∃ x c t u b, xs = [x, c] ∧ TyOf K H x t ∧ clsV c = some u ∧ PySem.W.kitOne K t u = some b ∧ Q (.bl b) H) := by subst hK; exact call_isi
theorem pi_listK {tg l : Expr} {tl : TE} (hl : PE X l tl) : PI X tg l (iList K tl) := by subst hK; exact pi_list hl
theorem pi_tupK {tg l : Expr} {tl : TE} (hl : PE X l tl) : PI X tg l (iTup K tl) := by subst hK; exact pi_tup hl
theorem pt_truthK {a : Expr} {ta : TE} (ha : PE X a ta) (he : ∀ whole, isTrue a X.env whole = (do let v ← whole; standAt a.pos; holding [v] (truthy v))) :
    PT X a (fun σ H Q => ta σ H fun x H' => ∃ k, TruV K x H' k ∧ Q k H') := by subst hK; exact pt_truth ha he
theorem pg_tupK {es : List Expr} {k : Nat} {t : TGs} {n : Nat} {pos : Pos} (hc : X.calm = true) (h : PGs X es t)
    (hn : (assignEach es X.env).length = n := by rfl) (hst : (assignEach es X.env).findIdx? (·.1) = none := by rfl) : PG X (.Tuple es k pos) (gTup K n t) := by subst hK; exact pg_tup hc h hn hst
variable {o e : Expr} {es : List Expr} {to : TE} {t : TA} {name : Str} {apos cpos : Pos} {T id : String} {r : V → List V → Hp → VK → Prop}
theorem pe_bm0K (pa : PlainAttrs T) (slot : Slot T name id) (hty : typeOf (.builtin id) = pure (.type "method_descriptor")) (hm : MtR X id r) (ho : PE X o to)
    (hbase : attributeBase o name X.env (eval o X.env) = eval o X.env := by rfl) (hline : (apos.endLine == cpos.line) = true := by rfl) : PE X (.Call (.Attribute o name apos) [] [] cpos) (tBM0 K T r to) := by
  subst hK; exact pe_bm0 pa slot hty hm ho hbase hline
theorem pe_bmK (pa : PlainAttrs T) (slot : Slot T name id) (hty : typeOf (.builtin id) = pure (.type "method_descriptor")) (hm : MtR X id r) (ho : PE X o to) (ha : PA X (e :: es) t)
    (hbase : attributeBase o name X.env (eval o X.env) = eval o X.env := by rfl)
    (hfew : ((backTo cpos (starEach (e :: es) X.env)).all (fun x => !x.1) && (backToKw cpos (keywordEach [] X.env)).all (fun x => x.1.isSome)
      && decide ((e :: es).length + ([] : List Keyword).length + (if ([] : List Keyword).isEmpty then 0 else 1) < 30)) = true := by rfl)
    (hline : (apos.endLine == cpos.line) = true := by rfl) (hs : starEach (e :: es) X.env = (false, eval e X.env) :: starEach es X.env := by rfl) (hplain : (backTo cpos (starEach es X.env)).any (·.1) = false := by rfl) :
    PE X (.Call (.Attribute o name apos) (e :: es) [] cpos) (tBM K T r to t) := by
  subst hK; exact pe_bm pa slot hty hm ho ha hbase hfew hline hs hplain
end
end L2


set_option linter.all false
set_option maxRecDepth 100000
set_option maxHeartbeats 4000000
namespace L2
open PySem PySem.Spec PyProof.Rows
section
variable {P : Program} {w : World} {K : PySem.W.Frag} {mg : Str → Option Value} {base : Heap}

theorem Fun.okX {x qual : Str} {st : Stmt} {f : Addr} {fd : FuncData} {N ps : List Str} {k : Nat} {sp : Sp} (F : Fun K x qual st f fd) (S : FnScope N ps (defScope st)) (len : ∀ vs H Q E, sp vs H Q E → vs.length = ps.length)
    (hbody : ∀ (cdv : Value) (A : Around) (outer : List Env) (s : Shared) (H : Hp) (vs : List V) (Q : VK) (E : XK), Room k (A.deeper (envOfC qual (defScope st) s.heap.objs.size f cdv)) → sp vs H Q E →
      ∃ t, PSs (cxOf (CXo P w) P w K mg base N qual (defScope st) f cdv A outer s H E) (defBody st) t ∧ t { nx := fun _ H' => Q .non H', rt := Q } (start N vs) H) : FnOk P w K mg base (CXo P w) (k + 1) f fd ps sp := by
  obtain ⟨oc, od, kV, doc, pm, an, cdv, ct, osl, rfl, lk, hcd⟩ := F.ex
  exact fn_of lk hcd S len fun A outer s H vs Q E hr hsp => hbody cdv A outer s H vs Q E hr hsp
end

structure Used (P : Program) (w : World) (K : PySem.W.Frag) (mg : Str → Option Value) (CX : CXT) (k : Nat) (x : Str) (ps : List Str) (sp : Sp) : Prop where
  ok : ∃ f fd, (∀ base, FnOk P w K mg base CX k f fd ps sp) ∧ mg x = some (.ref f) ∧ PySem.W.keepIn K (.ref f) = true ∧ Binds K fd ps []

theorem passX {X : Cx} : Passes (CXo X.prog X.w) X E0 := fun _ _ _ _ _ _ _ ⟨_, _, _, _, _, h⟩ => h.elim
theorem Same.upd {H : Hp} {p : Addr} {o : HO} (h : H p = none) : Same H (upd H p o) := fun b u e => by rw [upd_ne (ne_of_none e h)]; exact e

theorem Same.put {H H' : Hp} {p : Addr} {o : HO} (s : Same H H') (h : H p = none) : Same H (L2.upd H' p o) := fun b u e => by rw [upd_ne (ne_of_none e h)]; exact s b u e
def del (H : Hp) (l : Addr) : Hp := fun b => if b = l then none else H b
theorem del_ne {H : Hp} {l b : Addr} (h : b ≠ l) : del H l b = H b := if_neg h
theorem del_same (H : Hp) (l : Addr) : Same (del H l) H := fun b o e => by
  unfold del at e
  split at e
  · cases e
  · exact e
theorem Same.del {H H' : Hp} (s : Same H H') (l : Addr) : Same (L2.del H l) (L2.del H' l) := fun b o e => by
  unfold L2.del at e ⊢
  split at e
  · cases e
  · rw [if_neg (by assumption)]; exact s b o e
theorem del_upd {H : Hp} {l : Addr} {o : HO} : L2.del (L2.upd H l o) l = L2.del H l := by
  funext b
  unfold L2.del L2.upd
  split <;> rfl

theorem comp_by {J : It} {g : TG} {tc : TT} {te : TE} {Q : VK} {l : Addr} {τ : St} {H1 : Hp} (n : Nat) (W : Nat → List V → St → Hp → Prop) (h0 : W 0 [] τ (upd H1 l (.lst [])))
    (hgo : ∀ i ys τ H (N : List V → St → Hp → Prop), i < n → W i ys τ H → (∀ ys τ H, W (i + 1) ys τ H → N ys τ H) → J.go i H ∧ ∀ x H3, J.yld i H x H3 → g x τ H3 fun τ4 H4 => tc τ4 H4 fun b H5 =>
      if b = true then te τ4 H5 fun y H6 => H6 l = some (.lst ys) ∧ ys.length < sizeLine ∧ N (ys ++ [y]) τ4 (upd H6 l (.lst (ys ++ [y]))) else N ys τ4 H5)
    (hst : ∀ ys τ H, W n ys τ H → J.stop n H ∧ Q (.ref l) H) : CompOk J g tc te Q l τ H1 := by
  refine ⟨fun i m ys τ H => m = n - i ∧ i ≤ n ∧ W i ys τ H, ⟨n, by simp, Nat.zero_le _, h0⟩, ?_⟩
  rintro i m ys τ H ⟨rfl, hi, w⟩
  by_cases hlt : i < n
  · exact .inr (hgo i ys τ H (fun ys τ H => ∃ m', m' < n - i ∧ m' = n - (i + 1) ∧ i + 1 ≤ n ∧ W (i + 1) ys τ H) hlt w fun ys τ H h => ⟨n - (i + 1), by omega, rfl, hlt, h⟩)
  · have ei : i = n := by omega
    subst ei
    exact .inl (hst ys τ H w)

def GivesN (J : It) (n : Nat) (H : Hp) (item : Nat → V → Prop) : Prop := ∀ i H', Same H H' → (i < n → J.go i H' ∧ ∀ x H3, J.yld i H' x H3 → H3 = H' ∧ item i x) ∧ J.stop n H'
theorem gives_list {K : PySem.W.Frag} {a : Addr} {xs : List V} {H : Hp} (h : SqL K H a xs) : GivesN (Itl K a) xs.length H fun i x => xs[i]? = some x := fun i H' s => by
  have h' := s.seq h
  exact ⟨fun hi => ⟨⟨xs, xs[i], h', by simp [hi]⟩, fun x H3 y => ⟨y.1, y.2 xs h'⟩⟩, ⟨xs, h', Nat.le_refl _⟩⟩
theorem Same.seqT {K : PySem.W.Frag} {H H' : Hp} {a : Addr} {xs : List V} (e : Same H H') (h : SqT K H a xs) : SqT K H' a xs := by
  rcases h with (h | ⟨o, h⟩) | h
  · exact .inl (.inl (e _ _ h))
  · exact .inl (.inr ⟨o, e _ _ h⟩)
  · exact .inr h
theorem gives_tup {K : PySem.W.Frag} {a : Addr} {xs : List V} {H : Hp} (h : SqT K H a xs) : GivesN (Itt K a) xs.length H fun i x => xs[i]? = some x := fun i H' s => by
  have h' := s.seqT h
  exact ⟨fun hi => ⟨⟨xs, xs[i], h', by simp [hi]⟩, fun x H3 y => ⟨y.1, y.2 xs h'⟩⟩, ⟨xs, h', Nat.le_refl _⟩⟩
theorem gives_range {lo : Int} {n : Nat} {H : Hp} : GivesN (Itr lo n) n H fun i x => x = .int (lo + i) := fun i H' s =>
  ⟨fun hi => ⟨hi, fun x H3 y => y⟩, Nat.le_refl _⟩
theorem comp_items {J : It} {n : Nat} {item : Nat → V → Prop} {te : TE} {Q : VK} {H : Hp} {l : Addr} {τ : St} (j0 : Nat) (Py : Nat → V → Hp → Prop) (hJ : GivesN J n H item) (mono : ∀ k y H H', Same H H' → Py k y H → Py k y H') (hp : Plain H)
    (hl : H l = none) (hτ : j0 < τ.length) (hz : n ≤ sizeLine) (keep : St → Prop) (hk0 : keep τ) (hks : ∀ τ' v, keep τ' → keep (τ'.set j0 v))
    (ht : ∀ (τ' : St) (k : Nat) (x : V) (H' : Hp) (R : VK), keep τ' → τ'[j0]? = some (some x) → item k x → k < n → Same H H' → Plain H' → H' l ≠ none → (∀ y H6, Same H' H6 → Plain H6 → Py k y (del H6 l) → R y H6) → te τ' H' R)
    (hq : ∀ ys H', ys.length = n → (∀ k y, ys[k]? = some y → Py k y (del H' l)) → Same H H' → Plain H' → H' l = some (.lst ys) → Q (.ref l) H') : CompOk J (gName j0) tYes te Q l τ H := by
  refine ⟨fun i m ys τ' H2 => m = n - i ∧ i ≤ n ∧ ys.length = i ∧ (∀ k y, ys[k]? = some y → Py k y (del H2 l)) ∧ j0 < τ'.length ∧ keep τ' ∧ Same H H2 ∧ Plain H2 ∧ H2 l = some (.lst ys),
    ⟨n, by simp, Nat.zero_le _, rfl, fun k y e => by simp at e, hτ, hk0, Same.upd hl, hp.upd rfl, upd_same⟩, ?_⟩
  rintro i m ys τ' H2 ⟨rfl, hi, hy, hP, hτ', hk', hs, hpl, hll⟩
  obtain ⟨hgo, hst⟩ := hJ i H2 hs
  by_cases hlt : i < n
  · obtain ⟨h1, h2⟩ := hgo hlt
    refine .inr ⟨h1, fun x H3 hyl => ?_⟩
    obtain ⟨eH, hit⟩ := h2 x H3 hyl
    subst eH
    show te _ _ _
    refine ht _ i x _ _ (hks _ _ hk') ?_ hit hlt hs hpl (by rw [hll]; intro z; cases z) fun y H6 s6 p6 py => ?_
    · rw [List.getElem?_set_self hτ']
    · have hl6 : H6 l = some (.lst ys) := s6 _ _ hll
      refine ⟨hl6, by omega, n - (i + 1), by omega, rfl, hlt, by simp [hy], fun k z e => ?_, by rw [List.length_set]; exact hτ', hks _ _ hk', (hs.trans s6).put hl, p6.upd rfl, upd_same⟩
      rw [del_upd]
      by_cases hkl : k < ys.length
      · rw [List.getElem?_append_left hkl] at e
        exact mono k z _ _ (s6.del l) (hP k z e)
      · rw [List.getElem?_append_right (by omega)] at e
        have hk0 : k - ys.length = 0 := by
          cases hh : k - ys.length with
          | zero => rfl
          | succ j => rw [hh] at e; simp at e
        rw [hk0] at e
        have e2 : y = z := by simpa using e
        have e3 : k = i := by omega
        subst e2 e3
        exact py
  · have ei : i = n := by omega
    subst ei
    exact .inl ⟨hst, hq ys H2 hy hP hs hpl hll⟩

end L2


set_option linter.all false
set_option maxRecDepth 100000
set_option maxHeartbeats 4000000
namespace L2
open PySem PySem.Spec PyProof.Rows
inductive D where
  | non | bl (b : Bool) | int (i : Int) | str (x : Str) | lst (xs : List D) | tup (xs : List D) | oth
mutual
def eqD : D → D → Bool
  | .non, .non => true
  | .bl a, .bl b => a == b
  | .bl a, .int b => (if a then (1 : Int) else 0) == b
  | .int a, .bl b => a == (if b then (1 : Int) else 0)
  | .int a, .int b => a == b
  | .str a, .str b => a == b
  | .lst xs, .lst ys => eqDs xs ys
  | .tup xs, .tup ys => eqDs xs ys
  | _, _ => false
def eqDs : List D → List D → Bool
  | [], [] => true
  | x :: xs, y :: ys => eqD x y && eqDs xs ys
  | _, _ => false
end
mutual
def D.dep : D → Nat
  | .lst xs => depS xs + 1
  | .tup xs => depS xs + 1
  | _ => 0
def depS : List D → Nat
  | [] => 0
  | x :: xs => max x.dep (depS xs)
end
mutual
def Den (H : Hp) : V → D → Prop
  | v, .non => v = .non
  | v, .bl b => v = .bl b
  | v, .int i => v = .int i
  | v, .str x => v = .str x
  | v, .lst ds => ∃ a xs, v = .ref a ∧ Rd H a (.lst xs) ∧ Dens H xs ds
  | v, .tup ds => ∃ a xs, v = .ref a ∧ H a = some (.tup xs) ∧ Dens H xs ds
  | v, .oth => ∃ a kvs, v = .ref a ∧ H a = some (.dK kvs)
def Dens (H : Hp) : List V → List D → Prop
  | [], [] => True
  | v :: vs, d :: ds => Den H v d ∧ Dens H vs ds
  | _, _ => False
end
mutual

def D.ok : D → Bool
  | .lst xs => okS xs
  | .tup xs => okS xs
  | .oth => false
  | _ => true
def okS : List D → Bool
  | [] => true
  | x :: xs => x.ok && okS xs
end
theorem okS_mem : ∀ {xs : List D} {d : D}, okS xs = true → d ∈ xs → d.ok = true
  | x :: xs, d, h, hd => by
    unfold okS at h
    rw [Bool.and_eq_true] at h
    rcases List.mem_cons.mp hd with rfl | hd
    · exact h.1
    · exact okS_mem h.2 hd
theorem okS_of : ∀ {xs : List D}, (∀ d ∈ xs, d.ok = true) → okS xs = true
  | [], _ => by unfold okS; rfl
  | x :: xs, h => by unfold okS; rw [h x List.mem_cons_self, okS_of fun d hd => h d (List.mem_cons_of_mem _ hd)]; rfl
theorem depS_le : ∀ {xs : List D} {d : D}, d ∈ xs → d.dep ≤ depS xs
  | x :: xs, d, h => by
    unfold depS
    rcases List.mem_cons.mp h with rfl | h
    · exact Nat.le_max_left _ _
    · exact Nat.le_trans (depS_le h) (Nat.le_max_right _ _)
mutual
theorem eqD_refl : ∀ d : D, d.ok = true → eqD d d = true
  | .non, _ => by unfold eqD; rfl
  | .bl b, _ => by unfold eqD; exact beq_self_eq_true b
  | .int i, _ => by unfold eqD; exact beq_self_eq_true i
  | .str x, _ => by unfold eqD; exact beq_self_eq_true x
  | .lst xs, h => by unfold eqD; unfold D.ok at h; exact eqDs_refl xs h
  | .tup xs, h => by unfold eqD; unfold D.ok at h; exact eqDs_refl xs h
  | .oth, h => by unfold D.ok at h; cases h
theorem eqDs_refl : ∀ ds : List D, okS ds = true → eqDs ds ds = true
  | [], _ => by unfold eqDs; rfl
  | d :: ds, h => by
    unfold okS at h
    rw [Bool.and_eq_true] at h
    unfold eqDs
    rw [eqD_refl d h.1, eqDs_refl ds h.2]
    rfl
end
theorem eqD_lst (xs ys : List D) : eqD (.lst xs) (.lst ys) = eqDs xs ys := by unfold eqD; rfl
theorem eqD_tup (xs ys : List D) : eqD (.tup xs) (.tup ys) = eqDs xs ys := by unfold eqD; rfl
theorem eqDs_len : ∀ {xs ys : List D}, xs.length ≠ ys.length → eqDs xs ys = false
  | [], [], h => absurd rfl h
  | [], _ :: _, _ => by unfold eqDs; rfl
  | _ :: _, [], _ => by unfold eqDs; rfl
  | x :: xs, y :: ys, h => by
    unfold eqDs
    rw [eqDs_len (xs := xs) (ys := ys) fun e => h (by rw [List.length_cons, List.length_cons, e]), Bool.and_false]
theorem eqDs_all : ∀ {xs ys : List D}, xs.length = ys.length → eqDs xs ys = (List.range xs.length).all fun j => eqD (xs.getD j .non) (ys.getD j .non)
  | [], [], _ => by unfold eqDs; rfl
  | [], _ :: _, h => by cases h
  | _ :: _, [], h => by cases h
  | x :: xs, y :: ys, h => by
    unfold eqDs
    rw [eqDs_all (xs := xs) (ys := ys) (Nat.succ.inj h), List.length_cons, List.range_succ_eq_map, List.all_cons, List.all_map]
    rfl
section
variable {H H' : Hp}
theorem Dens.len : ∀ {xs : List V} {ds : List D}, Dens H xs ds → xs.length = ds.length
  | [], [], _ => rfl
  | [], _ :: _, h => by unfold Dens at h; exact h.elim
  | _ :: _, [], h => by unfold Dens at h; exact h.elim
  | v :: vs, d :: ds, h => by
    unfold Dens at h
    rw [List.length_cons, List.length_cons, Dens.len h.2]
theorem Dens.get : ∀ {xs : List V} {ds : List D} {i : Nat} {v : V}, Dens H xs ds → xs[i]? = some v → ∃ d, ds[i]? = some d ∧ Den H v d
  | [], _, i, v, _, e => by simp at e
  | _ :: _, [], _, _, h, _ => by unfold Dens at h; exact h.elim
  | x :: xs, d :: ds, 0, v, h, e => by
    unfold Dens at h
    simp at e
    subst e
    exact ⟨d, rfl, h.1⟩
  | x :: xs, d :: ds, i + 1, v, h, e => by
    unfold Dens at h
    exact Dens.get (i := i) h.2 (by simpa using e)
theorem Dens.getD : ∀ {xs : List V} {ds : List D} {i : Nat} {d : D}, Dens H xs ds → ds[i]? = some d → ∃ v, xs[i]? = some v ∧ Den H v d
  | _, [], i, v, _, e => by simp at e
  | [], _ :: _, _, _, h, _ => by unfold Dens at h; exact h.elim
  | x :: xs, d :: ds, 0, v, h, e => by
    unfold Dens at h
    simp at e
    subst e
    exact ⟨x, rfl, h.1⟩
  | x :: xs, d :: ds, i + 1, v, h, e => by
    unfold Dens at h
    exact Dens.getD (i := i) h.2 (by simpa using e)
theorem Dens.nil : Dens H [] [] := by unfold Dens; trivial
theorem Dens.cons {v : V} {vs : List V} {d : D} {ds : List D} (h : Den H v d) (hs : Dens H vs ds) : Dens H (v :: vs) (d :: ds) := by unfold Dens; exact ⟨h, hs⟩
theorem Dens.append : ∀ {xs ys : List V} {ds es : List D}, Dens H xs ds → Dens H ys es → Dens H (xs ++ ys) (ds ++ es)
  | [], _, [], _, _, h => h
  | [], _, _ :: _, _, h, _ => by unfold Dens at h; exact h.elim
  | _ :: _, _, [], _, h, _ => by unfold Dens at h; exact h.elim
  | x :: xs, ys, d :: ds, es, h, h2 => by
    unfold Dens at h
    exact .cons h.1 (Dens.append h.2 h2)
theorem Dens.of_all : ∀ {xs : List V} {ds : List D}, xs.length = ds.length → (∀ (i : Nat) (v : V) (d : D), xs[i]? = some v → ds[i]? = some d → Den H v d) → Dens H xs ds
  | [], [], _, _ => .nil
  | [], _ :: _, h, _ => by cases h
  | _ :: _, [], h, _ => by cases h
  | x :: xs, d :: ds, h, k => .cons (k 0 x d rfl rfl) (Dens.of_all (Nat.succ.inj h) fun i v e h1 h2 => k (i + 1) v e (by simpa using h1) (by simpa using h2))
theorem Dens.take {xs : List V} {ds : List D} (h : Dens H xs ds) (n : Nat) : Dens H (xs.take n) (ds.take n) := by
  have hl := h.len
  refine .of_all (by rw [List.length_take, List.length_take, hl]) fun i v d h1 h2 => ?_
  rw [List.getElem?_take] at h1 h2
  split at h1
  · rw [if_pos (by assumption)] at h2
    obtain ⟨e, he, hd⟩ := h.get h1
    rw [h2] at he; cases he
    exact hd
  · cases h1
theorem Dens.drop {xs : List V} {ds : List D} (h : Dens H xs ds) (n : Nat) : Dens H (xs.drop n) (ds.drop n) := by
  have hl := h.len
  refine .of_all (by rw [List.length_drop, List.length_drop, hl]) fun i v d h1 h2 => ?_
  rw [List.getElem?_drop] at h1 h2
  obtain ⟨e, he, hd⟩ := h.get h1
  rw [h2] at he; cases he
  exact hd
theorem Den.lst {a : Addr} {xs : List V} {ds : List D} (h : Rd H a (.lst xs)) (hs : Dens H xs ds) : Den H (.ref a) (.lst ds) := by unfold Den; exact ⟨a, xs, rfl, h, hs⟩
theorem Den.tup {a : Addr} {xs : List V} {ds : List D} (h : H a = some (.tup xs)) (hs : Dens H xs ds) : Den H (.ref a) (.tup ds) := by unfold Den; exact ⟨a, xs, rfl, h, hs⟩
theorem Den.int (i : Int) : Den H (.int i) (.int i) := by unfold Den; rfl
theorem Den.str (x : Str) : Den H (.str x) (.str x) := by unfold Den; rfl
theorem Den.bl (b : Bool) : Den H (.bl b) (.bl b) := by unfold Den; rfl
theorem Den.non : Den H .non .non := by unfold Den; rfl
theorem Den.to_lst {v : V} {ds : List D} (h : Den H v (.lst ds)) : ∃ a xs, v = .ref a ∧ Rd H a (.lst xs) ∧ Dens H xs ds := by unfold Den at h; exact h
theorem Den.to_tup {v : V} {ds : List D} (h : Den H v (.tup ds)) : ∃ a xs, v = .ref a ∧ H a = some (.tup xs) ∧ Dens H xs ds := by unfold Den at h; exact h
theorem Den.to_int {v : V} {i : Int} (h : Den H v (.int i)) : v = .int i := by unfold Den at h; exact h
theorem Den.to_str {v : V} {i : Str} (h : Den H v (.str i)) : v = .str i := by unfold Den at h; exact h
theorem Dens.ints : ∀ (ns : List Int), Dens H (ns.map V.int) (ns.map D.int)
  | [] => .nil
  | n :: ns => .cons (.int n) (Dens.ints ns)
theorem Dens.strs : ∀ (ns : List Str), Dens H (ns.map V.str) (ns.map D.str)
  | [] => .nil
  | n :: ns => .cons (.str n) (Dens.strs ns)
theorem Same.rd {a : Addr} {u : HO} (e : Same H H') (h : Rd H a u) : Rd H' a u := by
  rcases h with h | ⟨o, h⟩
  · exact .inl (e _ _ h)
  · exact .inr ⟨o, e _ _ h⟩
theorem Rd.inj {a : Addr} {xs ys : List V} (h : Rd H a (.lst xs)) (h' : Rd H a (.lst ys)) : xs = ys := by
  rcases h with h | ⟨o, h⟩ <;> rcases h' with h' | ⟨o', h'⟩ <;> rw [h] at h' <;> cases h' <;> rfl
mutual
theorem Den.same (e : Same H H') : ∀ {v : V} {d : D}, Den H v d → Den H' v d
  | _, .non, h => by unfold Den at h ⊢; exact h
  | _, .bl _, h => by unfold Den at h ⊢; exact h
  | _, .int _, h => by unfold Den at h ⊢; exact h
  | _, .str _, h => by unfold Den at h ⊢; exact h
  | _, .lst ds, h => by
    unfold Den at h ⊢
    obtain ⟨a, xs, e1, e2, e3⟩ := h
    exact ⟨a, xs, e1, e.rd e2, Dens.same e e3⟩
  | _, .tup ds, h => by
    unfold Den at h ⊢
    obtain ⟨a, xs, e1, e2, e3⟩ := h
    exact ⟨a, xs, e1, e _ _ e2, Dens.same e e3⟩
  | _, .oth, h => by
    unfold Den at h ⊢
    obtain ⟨a, kvs, e1, e2⟩ := h
    exact ⟨a, kvs, e1, e _ _ e2⟩
theorem Dens.same (e : Same H H') : ∀ {vs : List V} {ds : List D}, Dens H vs ds → Dens H' vs ds
  | [], [], h => .nil
  | [], _ :: _, h => by unfold Dens at h; exact h.elim
  | _ :: _, [], h => by unfold Dens at h; exact h.elim
  | v :: vs, d :: ds, h => by
    unfold Dens at h
    exact .cons (Den.same e h.1) (Dens.same e h.2)
end
end
section
variable {X : Cx} {pins : List (Addr × Obj)} {σ : St} {H : Hp} {s : Shared}
mutual
theorem Den.uniq : ∀ {v : V} {d d' : D}, Den H v d → Den H v d' → d = d'
  | v, .non, d', h, h' => by
    unfold Den at h; subst h
    cases d' with
    | non => rfl
    | lst es => unfold Den at h'; obtain ⟨_, _, z, _⟩ := h'; cases z
    | tup es => unfold Den at h'; obtain ⟨_, _, z, _⟩ := h'; cases z
    | oth => unfold Den at h'; obtain ⟨_, _, z, _⟩ := h'; cases z
    | _ => unfold Den at h'; cases h'
  | v, .bl b, d', h, h' => by
    unfold Den at h; subst h
    cases d' with
    | bl c => unfold Den at h'; cases h'; rfl
    | lst es => unfold Den at h'; obtain ⟨_, _, z, _⟩ := h'; cases z
    | tup es => unfold Den at h'; obtain ⟨_, _, z, _⟩ := h'; cases z
    | oth => unfold Den at h'; obtain ⟨_, _, z, _⟩ := h'; cases z
    | _ => unfold Den at h'; cases h'
  | v, .int b, d', h, h' => by
    unfold Den at h; subst h
    cases d' with
    | int c => unfold Den at h'; cases h'; rfl
    | lst es => unfold Den at h'; obtain ⟨_, _, z, _⟩ := h'; cases z
    | tup es => unfold Den at h'; obtain ⟨_, _, z, _⟩ := h'; cases z
    | oth => unfold Den at h'; obtain ⟨_, _, z, _⟩ := h'; cases z
    | _ => unfold Den at h'; cases h'
  | v, .str b, d', h, h' => by
    unfold Den at h; subst h
    cases d' with
    | str c => unfold Den at h'; cases h'; rfl
    | lst es => unfold Den at h'; obtain ⟨_, _, z, _⟩ := h'; cases z
    | tup es => unfold Den at h'; obtain ⟨_, _, z, _⟩ := h'; cases z
    | oth => unfold Den at h'; obtain ⟨_, _, z, _⟩ := h'; cases z
    | _ => unfold Den at h'; cases h'
  | v, .lst ds, d', h, h' => by
    obtain ⟨a, xs, rfl, e2, e3⟩ := h.to_lst
    cases d' with
    | lst es =>
      obtain ⟨b, ys, z, f2, f3⟩ := h'.to_lst
      cases z
      have := e2.inj f2
      subst this
      rw [Dens.uniq e3 f3]
    | tup es =>
      obtain ⟨b, ys, z, f2, f3⟩ := h'.to_tup
      cases z
      rcases e2 with e2 | ⟨o, e2⟩ <;> rw [e2] at f2 <;> cases f2
    | oth =>
      unfold Den at h'
      obtain ⟨b, ys, z, f2⟩ := h'
      cases z
      rcases e2 with e2 | ⟨o, e2⟩ <;> rw [e2] at f2 <;> cases f2
    | _ => unfold Den at h'; cases h'
  | v, .tup ds, d', h, h' => by
    obtain ⟨a, xs, rfl, e2, e3⟩ := h.to_tup
    cases d' with
    | tup es =>
      obtain ⟨b, ys, z, f2, f3⟩ := h'.to_tup
      cases z
      rw [e2] at f2
      cases f2
      rw [Dens.uniq e3 f3]
    | lst es =>
      obtain ⟨b, ys, z, f2, f3⟩ := h'.to_lst
      cases z
      rcases f2 with f2 | ⟨o, f2⟩ <;> rw [e2] at f2 <;> cases f2
    | oth =>
      unfold Den at h'
      obtain ⟨b, ys, z, f2⟩ := h'
      cases z
      rw [e2] at f2; cases f2
    | _ => unfold Den at h'; cases h'
  | v, .oth, d', h, h' => by
    unfold Den at h
    obtain ⟨a, kvs, rfl, e2⟩ := h
    cases d' with
    | oth => rfl
    | lst es =>
      obtain ⟨b, ys, z, f2, f3⟩ := h'.to_lst
      cases z
      rcases f2 with f2 | ⟨o, f2⟩ <;> rw [e2] at f2 <;> cases f2
    | tup es =>
      obtain ⟨b, ys, z, f2, f3⟩ := h'.to_tup
      cases z
      rw [e2] at f2; cases f2
    | _ => unfold Den at h'; cases h'
theorem Dens.uniq : ∀ {vs : List V} {ds es : List D}, Dens H vs ds → Dens H vs es → ds = es
  | [], [], [], _, _ => rfl
  | [], _ :: _, _, h, _ => by unfold Dens at h; exact h.elim
  | [], _, _ :: _, _, h => by unfold Dens at h; exact h.elim
  | _ :: _, [], _, h, _ => by unfold Dens at h; exact h.elim
  | _ :: _, _, [], _, h => by unfold Dens at h; exact h.elim
  | v :: vs, d :: ds, e :: es, h, h' => by
    unfold Dens at h h'
    rw [Den.uniq h.1 h'.1, Dens.uniq h.2 h'.2]
end

def tyD : D → String
  | .non => "NoneType"
  | .bl _ => "bool"
  | .int _ => "int"
  | .str _ => "str"
  | .lst _ => "list"
  | .tup _ => "tuple"
  | .oth => "dict"
theorem Den.ty {K : PySem.W.Frag} : ∀ {v : V} {d : D}, Den H v d → TyOf K H v (.type (tyD d))
  | _, .non, h => by unfold Den at h; subst h; exact .non
  | _, .bl b, h => by unfold Den at h; subst h; exact .bl b
  | _, .int b, h => by unfold Den at h; subst h; exact .int b
  | _, .str b, h => by unfold Den at h; subst h; exact .str b
  | _, .lst ds, h => by
    obtain ⟨a, xs, rfl, e2 | ⟨o, e2⟩, _⟩ := h.to_lst
    · exact .lst e2
    · exact .frz e2
  | _, .tup ds, h => by
    obtain ⟨a, xs, rfl, e2, _⟩ := h.to_tup
    exact .tup e2
  | _, .oth, h => by
    unfold Den at h
    obtain ⟨a, kvs, rfl, e2⟩ := h
    exact .dK e2
theorem getD_of {ds : List D} {i : Nat} {d : D} (h : ds[i]? = some d) : ds.getD i .non = d := by
  rw [List.getD_eq_getElem?_getD, h]; rfl

structure Cmp (A : Around) (s : Shared) (x y : Value) (b : Bool) : Prop where
  eq : SeqAt.EqAt A s x y b
  rc : SeqAt.RcAt A s x y b
  ne : SeqAt.RcNeAt A s x y (!b)
theorem cmp_seq {A : Around} {xs ys : List V} {ds es : List D} {its its2 : List Value} (h1 : Dens H xs ds) (h2 : Dens H ys es) (r1 : Vals xs its) (r2 : Vals ys its2)
    (ih : ∀ (d d' : D) (v u : V) (x y : Value), d ∈ ds → d' ∈ es → Den H v d → Den H u d' → RelV v x → RelV u y → SeqAt.EqAt A s x y (eqD d d')) :
    ∀ j (q1 : j < its.toArray.size) (q2 : j < its2.toArray.size), SeqAt.EqAt A s its.toArray[j] its2.toArray[j] (eqD (ds.getD j .non) (es.getD j .non)) := by
  intro j q1 q2
  have l1 := r1.length
  have l2 := r2.length
  have q1' : j < xs.length := by rw [l1]; simpa using q1
  have q2' : j < ys.length := by rw [l2]; simpa using q2
  obtain ⟨d, hd, den⟩ := h1.get (i := j) (List.getElem?_eq_getElem q1')
  obtain ⟨d', hd', den'⟩ := h2.get (i := j) (List.getElem?_eq_getElem q2')
  obtain ⟨u, hu, ru⟩ := r1.get (List.getElem?_eq_getElem q1')
  obtain ⟨u', hu', ru'⟩ := r2.get (List.getElem?_eq_getElem q2')
  rw [getD_of hd, getD_of hd']
  have e1 : its.toArray[j] = u := by
    have : its.toArray[j]? = some u := by simpa using hu
    rw [Array.getElem?_eq_getElem q1] at this
    exact Option.some.inj this
  have e2 : its2.toArray[j] = u' := by
    have : its2.toArray[j]? = some u' := by simpa using hu'
    rw [Array.getElem?_eq_getElem q2] at this
    exact Option.some.inj this
  rw [e1, e2]
  exact ih d d' _ _ _ _ (List.mem_of_getElem? hd) (List.mem_of_getElem? hd') den den' ru ru'
theorem cmp_of_refs {A : Around} {a b : Addr} {d d' : D} {k : Bool} (hk : k = eqD d d') (hok : d.ok = true) (h1 : Den H (.ref a) d) (h2 : Den H (.ref b) d') (rc : SeqAt.RcAt A s (.ref a) (.ref b) k) (ne : SeqAt.RcNeAt A s (.ref a) (.ref b) (!k)) : Cmp A s (.ref a) (.ref b) (eqD d d') := by
  subst hk
  refine ⟨?_, rc, ne⟩
  by_cases hab : a = b
  · subst hab
    have := h1.uniq h2
    subst this
    rw [eqD_refl _ hok]
    exact .same _
  · exact .of_refs hab rc
theorem cmp_D (I : Inv X pins σ H s) : ∀ (n : Nat) (A : Around) (d d' : D) (v u : V) (x y : Value), d.ok = true → d'.ok = true → d.dep ≤ n → A.units + n < cLine → Den H v d → Den H u d' → RelV v x → RelV u y → Cmp A s x y (eqD d d') := by
  intro n
  induction n with
  | zero =>
    intro A d d' v u x y hok hok' hn hu h h' r r'
    have hu' : A.units < cLine := by omega
    cases d with
    | lst ds => unfold D.dep at hn; omega
    | tup ds => unfold D.dep at hn; omega
    | oth => unfold D.ok at hok; cases hok
    | non =>
      unfold Den at h; subst h; cases r
      cases d' with
      | non => unfold Den at h'; subst h'; cases r'; unfold eqD; exact ⟨.same _, .none_none, .none_none⟩
      | bl b => unfold Den at h'; subst h'; cases r'; unfold eqD; exact ⟨.none_bool _, .none_bool _, .none_bool _⟩
      | int b => unfold Den at h'; subst h'; obtain ⟨t, rfl⟩ := r'; unfold eqD; exact ⟨.none_int _ _, .none_int _ _, .none_int _ _⟩
      | str b => unfold Den at h'; subst h'; obtain ⟨t, rfl⟩ := r'; unfold eqD; exact ⟨.none_str _ _, .none_str _ _, .none_str _ _⟩
      | lst ds => obtain ⟨a, xs, rfl, e2, _⟩ := h'.to_lst; cases r'; obtain ⟨_, _, p, _⟩ := I.list (.inl e2); unfold eqD; exact ⟨.none_list p.isList hu', .none_list p.isList hu', .none_list p.isList hu'⟩
      | tup ds => obtain ⟨a, xs, rfl, e2, _⟩ := h'.to_tup; cases r'; obtain ⟨_, _, p, _⟩ := I.tuple (.inl (.inl e2)); unfold eqD; exact ⟨.none_tuple p hu', .none_tuple p hu', .none_tuple p hu'⟩
      | oth => unfold D.ok at hok'; cases hok'
    | bl c =>
      unfold Den at h; subst h; cases r
      cases d' with
      | non => unfold Den at h'; subst h'; cases r'; unfold eqD; exact ⟨.bool_none _, .bool_none _, .bool_none _⟩
      | bl b => unfold Den at h'; subst h'; cases r'; unfold eqD; exact ⟨.bool_bool _ _, .bool_bool _ _, .bool_bool _ _⟩
      | int b => unfold Den at h'; subst h'; obtain ⟨t, rfl⟩ := r'; unfold eqD; exact ⟨.bool_int _ _ _, .bool_int _ _ _, .bool_int _ _ _⟩
      | str b => unfold Den at h'; subst h'; obtain ⟨t, rfl⟩ := r'; unfold eqD; exact ⟨.bool_str _ _ _, .bool_str _ _ _, .bool_str _ _ _⟩
      | lst ds => obtain ⟨a, xs, rfl, e2, _⟩ := h'.to_lst; cases r'; obtain ⟨_, _, p, _⟩ := I.list (.inl e2); unfold eqD; exact ⟨.bool_list _ p.isList hu', .bool_list _ p.isList hu', .bool_list _ p.isList hu'⟩
      | tup ds => obtain ⟨a, xs, rfl, e2, _⟩ := h'.to_tup; cases r'; obtain ⟨_, _, p, _⟩ := I.tuple (.inl (.inl e2)); unfold eqD; exact ⟨.bool_tuple _ p hu', .bool_tuple _ p hu', .bool_tuple _ p hu'⟩
      | oth => unfold D.ok at hok'; cases hok'
    | int c =>
      unfold Den at h; subst h; obtain ⟨t, rfl⟩ := r
      cases d' with
      | non => unfold Den at h'; subst h'; cases r'; unfold eqD; exact ⟨.int_none _ _, .int_none _ _, .int_none _ _⟩
      | bl b => unfold Den at h'; subst h'; cases r'; unfold eqD; exact ⟨.int_bool _ _ _, .int_bool _ _ _, .int_bool _ _ _⟩
      | int b => unfold Den at h'; subst h'; obtain ⟨t, rfl⟩ := r'; unfold eqD; exact ⟨.int_int _ _ _ _, .int_int _ _ _ _, .int_int _ _ _ _⟩
      | str b => unfold Den at h'; subst h'; obtain ⟨t, rfl⟩ := r'; unfold eqD; exact ⟨.int_str _ _ _ _, .int_str _ _ _ _, .int_str _ _ _ _⟩
      | lst ds => obtain ⟨a, xs, rfl, e2, _⟩ := h'.to_lst; cases r'; obtain ⟨_, _, p, _⟩ := I.list (.inl e2); unfold eqD; exact ⟨.int_list _ _ p.isList hu', .int_list _ _ p.isList hu', .int_list _ _ p.isList hu'⟩
      | tup ds => obtain ⟨a, xs, rfl, e2, _⟩ := h'.to_tup; cases r'; obtain ⟨_, _, p, _⟩ := I.tuple (.inl (.inl e2)); unfold eqD; exact ⟨.int_tuple _ _ p hu', .int_tuple _ _ p hu', .int_tuple _ _ p hu'⟩
      | oth => unfold D.ok at hok'; cases hok'
    | str c =>
      unfold Den at h; subst h; obtain ⟨t, rfl⟩ := r
      cases d' with
      | non => unfold Den at h'; subst h'; cases r'; unfold eqD; exact ⟨.str_none _ _, .str_none _ _, .str_none _ _⟩
      | bl b => unfold Den at h'; subst h'; cases r'; unfold eqD; exact ⟨.str_bool _ _ _, .str_bool _ _ _, .str_bool _ _ _⟩
      | int b => unfold Den at h'; subst h'; obtain ⟨t, rfl⟩ := r'; unfold eqD; exact ⟨.str_int _ _ _ _, .str_int _ _ _ _, .str_int _ _ _ _⟩
      | str b => unfold Den at h'; subst h'; obtain ⟨t, rfl⟩ := r'; unfold eqD; exact ⟨.str_str _ _ _ _, .str_str _ _ _ _, .str_str _ _ _ _⟩
      | lst ds => obtain ⟨a, xs, rfl, e2, _⟩ := h'.to_lst; cases r'; obtain ⟨_, _, p, _⟩ := I.list (.inl e2); unfold eqD; exact ⟨.str_list _ _ p.isList hu', .str_list _ _ p.isList hu', .str_list _ _ p.isList hu'⟩
      | tup ds => obtain ⟨a, xs, rfl, e2, _⟩ := h'.to_tup; cases r'; obtain ⟨_, _, p, _⟩ := I.tuple (.inl (.inl e2)); unfold eqD; exact ⟨.str_tuple _ _ p hu', .str_tuple _ _ p hu', .str_tuple _ _ p hu'⟩
      | oth => unfold D.ok at hok'; cases hok'
  | succ n ih =>
    intro A d d' v u x y hok hok' hn hu h h' r r'
    have hu' : A.units < cLine := by omega
    have hin : A.in1.units + n < cLine := by show A.units + 1 + n < cLine; omega
    cases d with
    | lst ds =>
      have hn' : ∀ d ∈ ds, d.dep ≤ n := fun d hd => by
        have h1 := depS_le hd
        unfold D.dep at hn
        omega
      obtain ⟨a, xs, rfl, e2, e3⟩ := h.to_lst
      cases r
      obtain ⟨its, r1, p, _⟩ := I.list (.inl e2)
      cases d' with
      | oth => unfold D.ok at hok'; cases hok'
      | non => unfold Den at h'; subst h'; cases r'; unfold eqD; exact ⟨.list_none p.isList hu', .list_none p.isList hu', .list_none p.isList hu'⟩
      | bl b => unfold Den at h'; subst h'; cases r'; unfold eqD; exact ⟨.list_bool _ p.isList hu', .list_bool _ p.isList hu', .list_bool _ p.isList hu'⟩
      | int b => unfold Den at h'; subst h'; obtain ⟨t, rfl⟩ := r'; unfold eqD; exact ⟨.list_int _ _ p.isList hu', .list_int _ _ p.isList hu', .list_int _ _ p.isList hu'⟩
      | str b => unfold Den at h'; subst h'; obtain ⟨t, rfl⟩ := r'; unfold eqD; exact ⟨.list_str _ _ p.isList hu', .list_str _ _ p.isList hu', .list_str _ _ p.isList hu'⟩
      | tup es => obtain ⟨b, ys, rfl, f2, f3⟩ := h'.to_tup; cases r'; obtain ⟨_, _, p2, _⟩ := I.tuple (.inl (.inl f2)); unfold eqD; exact ⟨.list_tuple p.isList p2 hu', .list_tuple p.isList p2 hu', .list_tuple p.isList p2 hu'⟩
      | lst es =>
        have hok1 := hok
        have hok2 := hok'
        unfold D.ok at hok1 hok2
        obtain ⟨b, ys, rfl, f2, f3⟩ := h'.to_lst
        cases r'
        obtain ⟨its2, r2, p2, _⟩ := I.list (.inl f2)
        have n1 : its.toArray.size = ds.length := by rw [List.size_toArray, ← r1.length, e3.len]
        have n2 : its2.toArray.size = es.length := by rw [List.size_toArray, ← r2.length, f3.len]
        by_cases hl : ds.length = es.length
        · have items := cmp_seq (A := A.in1) e3 f3 r1 r2 fun d d' v u x y hd hd' q1 q2 q3 q4 => (ih A.in1 d d' v u x y (okS_mem hok1 hd) (okS_mem hok2 hd') (hn' d hd) hin q1 q2 q3 q4).eq
          refine cmp_of_refs (k := (List.range its.toArray.size).all fun j => eqD (ds.getD j .non) (es.getD j .non)) ?_ hok h h' (.lists p.isList p2.isList (by rw [n1, n2, hl]) hu' items) (.lists p.isList p2.isList (by rw [n1, n2, hl]) hu' items)
          rw [n1, ← eqDs_all hl, eqD_lst]
        · refine cmp_of_refs (k := false) ?_ hok h h' (.lists_lengths p.isList p2.isList (by rw [n1, n2]; simpa using hl) hu') (.lists_lengths p.isList p2.isList (by rw [n1, n2]; simpa using hl) hu')
          unfold eqD
          rw [eqDs_len hl]
    | tup ds =>
      have hn' : ∀ d ∈ ds, d.dep ≤ n := fun d hd => by
        have h1 := depS_le hd
        unfold D.dep at hn
        omega
      obtain ⟨a, xs, rfl, e2, e3⟩ := h.to_tup
      cases r
      obtain ⟨its, r1, p, _⟩ := I.tuple (.inl (.inl e2))
      cases d' with
      | oth => unfold D.ok at hok'; cases hok'
      | non => unfold Den at h'; subst h'; cases r'; unfold eqD; exact ⟨.tuple_none p hu', .tuple_none p hu', .tuple_none p hu'⟩
      | bl b => unfold Den at h'; subst h'; cases r'; unfold eqD; exact ⟨.tuple_bool _ p hu', .tuple_bool _ p hu', .tuple_bool _ p hu'⟩
      | int b => unfold Den at h'; subst h'; obtain ⟨t, rfl⟩ := r'; unfold eqD; exact ⟨.tuple_int _ _ p hu', .tuple_int _ _ p hu', .tuple_int _ _ p hu'⟩
      | str b => unfold Den at h'; subst h'; obtain ⟨t, rfl⟩ := r'; unfold eqD; exact ⟨.tuple_str _ _ p hu', .tuple_str _ _ p hu', .tuple_str _ _ p hu'⟩
      | lst es => obtain ⟨b, ys, rfl, f2, f3⟩ := h'.to_lst; cases r'; obtain ⟨_, _, p2, _⟩ := I.list (.inl f2); unfold eqD; exact ⟨.tuple_list p p2.isList hu', .tuple_list p p2.isList hu', .tuple_list p p2.isList hu'⟩
      | tup es =>
        have hok1 := hok
        have hok2 := hok'
        unfold D.ok at hok1 hok2
        obtain ⟨b, ys, rfl, f2, f3⟩ := h'.to_tup
        cases r'
        obtain ⟨its2, r2, p2, _⟩ := I.tuple (.inl (.inl f2))
        have n1 : its.toArray.size = ds.length := by rw [List.size_toArray, ← r1.length, e3.len]
        have n2 : its2.toArray.size = es.length := by rw [List.size_toArray, ← r2.length, f3.len]
        have items := cmp_seq (A := A.in1) e3 f3 r1 r2 fun d d' v u x y hd hd' q1 q2 q3 q4 => (ih A.in1 d d' v u x y (okS_mem hok1 hd) (okS_mem hok2 hd') (hn' d hd) hin q1 q2 q3 q4).eq
        refine cmp_of_refs (k := (List.range (min its.toArray.size its2.toArray.size)).all (fun j => eqD (ds.getD j .non) (es.getD j .non)) && its.toArray.size == its2.toArray.size) ?_ hok h h' (.tuples p p2 hu' items) (.tuples p p2 hu' items)
        rw [n1, n2, eqD_tup]
        by_cases hl : ds.length = es.length
        · rw [eqDs_all hl, ← hl, Nat.min_self, beq_self_eq_true, Bool.and_true]
        · rw [eqDs_len hl, beq_eq_false_iff_ne.mpr hl, Bool.and_false]
    | oth => unfold D.ok at hok; cases hok
    | non => exact ih A .non d' v u x y hok hok' (by unfold D.dep; omega) (by omega) h h' r r'
    | bl b => exact ih A (.bl b) d' v u x y hok hok' (by unfold D.dep; omega) (by omega) h h' r r'
    | int b => exact ih A (.int b) d' v u x y hok hok' (by unfold D.dep; omega) (by omega) h h' r r'
    | str b => exact ih A (.str b) d' v u x y hok hok' (by unfold D.dep; omega) (by omega) h h' r r'
theorem op_eq_deep (K : PySem.W.Frag) (hK : X.K = K) (hu : X.A.units + 64 < cLine) : OpR X (compareOp .Eq) (fun x y H Q => ∃ d d', Den H x d ∧ Den H y d' ∧ d.ok = true ∧ d'.ok = true ∧ d.dep ≤ 64 ∧ Q (.bl (eqD d d')) H) := by
  subst hK
  intro pins s σ H x y v u Q I rx ry h
  obtain ⟨d, d', h1, h2, k1, k2, hd, q⟩ := h
  exact (cmp_D I 64 X.A d d' x y v u k1 k2 hd hu h1 h2 rx ry).rc X.prog X.w _ _ ⟨.bl _, H, I, rfl, q⟩
theorem op_ne_deep (K : PySem.W.Frag) (hK : X.K = K) (hu : X.A.units + 64 < cLine) : OpR X (compareOp .NotEq) (fun x y H Q => ∃ d d', Den H x d ∧ Den H y d' ∧ d.ok = true ∧ d'.ok = true ∧ d.dep ≤ 64 ∧ Q (.bl (!eqD d d')) H) := by
  subst hK
  intro pins s σ H x y v u Q I rx ry h
  obtain ⟨d, d', h1, h2, k1, k2, hd, q⟩ := h
  exact (cmp_D I 64 X.A d d' x y v u k1 k2 hd hu h1 h2 rx ry).ne X.prog X.w _ _ ⟨.bl _, H, I, rfl, q⟩
end
end L2


set_option linter.all false
set_option maxRecDepth 100000
set_option maxHeartbeats 4000000
namespace L2
open PySem PySem.Spec PyProof.Rows
section
variable {X : Cx} {pins : List (Addr × Obj)} {σ : St} {H : Hp} {s : Shared} {h' : Heap}

theorem Inv.turns {t' : Nat} {ch : List Addr} (I : Inv X pins σ H s) (k : ∀ b o, b ∉ ch → s.heap.get? b = some o → h'.get? b = some o) (hf : ∀ b ∈ ch, FpOk X pins H b) : Inv X pins σ H { s with heap := h', toks := t' } := by
  have nit : ∀ b u, H b = some u → b ∉ ch := fun b u e z => by rw [(hf b z).1] at e; cases e
  refine I.step (g' := s.gens) (d' := s.drawn) (ch := ch) (fun b hb => ⟨(hf b hb).2.2.2.1, (hf b hb).2.1, (hf b hb).2.2.2.2.1, (hf b hb).2.2.2.2.2⟩) (fun b o _ _ hc e _ => k b o hc e) (fun b o _ _ hc e _ => ⟨o.slots, k b o hc e⟩) (fun _ _ _ _ n => n)
    (fun b o hc e => ⟨o, k b o hc e⟩) (fun _ _ e => e) (fun _ _ _ e => e) (fun b ps e => ⟨#[], by rw [e]; simp⟩) (fun m hm => ?_) (fun b u e => ?_) I.bare
  · obtain ⟨o, es, ep, ho, r⟩ := hm
    exact ⟨o, es, ep, k _ o (fun z => (hf _ z).2.1 rfl) ho, r⟩
  · refine (I.hok b u e).stay (fun c v hc q => k c v ?_ q) (fun _ q => q) fun _ _ q => q
    rcases hc with z | z
    · rw [z]; exact nit b u e
    · exact nit c _ z

theorem Inv.trackT {T : Addr} {xs : List V} {its : List Value} (I : Inv X pins σ H s) (new : H T = none) (ht : IsTup s.heap T its.toArray) (rv : Vals xs its) (hz : xs.length ≤ sizeLine) (hs : ∀ o, X.s₀.heap.get? T ≠ some o) (hp : ∀ p ∈ X.pn ++ pins, p.1 ≠ T) :
    Inv X pins σ (upd H T (.tup xs)) s := by
  obtain ⟨ot, hot, hct, nt, hdt⟩ := id ht
  have hL : X.env.locals ≠ T := fun z => by
    obtain ⟨m, ⟨o, es, ep, ho, hd', _⟩, _⟩ := I.loc
    rw [z, hot] at ho; cases ho; rw [hdt] at hd'; cases hd'
  have hC : ∀ x c, X.env.cells.lookup x = some c → c ≠ T := fun x c h1 z => by
    obtain ⟨v, o, ho, hd'⟩ := I.cell x c h1
    rw [z, hot] at ho; cases ho; rw [hdt] at hd'; cases hd'
  refine ⟨I.ok, I.os, I.bare, ?_, I.loc, I.cell, by rw [upd_ne hL]; exact I.free, fun x c h1 => by rw [upd_ne (hC x c h1)]; exact I.freeC x c h1, fun p hp' => ?_, fun a o ea => ?_, I.len⟩
  · exact ⟨I.base.keep, I.base.slot, fun b o q n hx => by rw [upd_ne (fun z => hs o (by rw [← z]; exact q))]; exact I.base.free b o q n hx, I.base.there,
      fun b xs q => by have z := I.base.tups b xs q; rw [upd_ne (ne_of_none z new)]; exact z, fun b ob u q => by have z := I.base.frzs b ob u q; rw [upd_ne (ne_of_none z new)]; exact z,
      fun b ps q => by obtain ⟨mo, z⟩ := I.base.tbls b ps q; exact ⟨mo, by rw [upd_ne (ne_of_none z new)]; exact z⟩⟩
  · obtain ⟨p1, p2, p3⟩ := I.pin p hp'
    exact ⟨p1, by rw [upd_ne (hp p hp')]; exact p2, p3⟩
  · by_cases ha : a = T
    · subst ha
      rw [upd_same] at ea
      cases ea
      exact ⟨hz, its, rv, ht⟩
    · rw [upd_ne ha] at ea
      exact (I.hok a o ea).stay (fun _ _ _ q => q) (fun b q => by rw [upd_ne (ne_of_none q new)]; exact q) fun b xs q => by rw [upd_ne (ne_of_none q new)]; exact q
end

def Ite (K : PySem.W.Frag) (a : Addr) : It :=
  ⟨fun i H => ∃ xs x, SqL K H a xs ∧ xs[i]? = some x, fun i H v H' => ∃ T, H T = none ∧ v = .ref T ∧ ∀ xs, SqL K H a xs → ∃ x, xs[i]? = some x ∧ H' = upd H T (.tup [.int i, x]), fun i H => ∃ xs, SqL K H a xs ∧ xs.length ≤ i⟩
theorem turn_enum {P : Program} {w : World} {K : PySem.W.Frag} {elts : List Expr} {k : Nat} {pos : Pos} (a e it : Addr) :
    Turn P w K (.Tuple elts k pos) (Ite K a) [e, it] e (fun i h => (∃ old, IsEnum h e it (i : Nat) old) ∧ h.IsListIter it a i ∧ e ≠ it) where
  mem := by simp
  obj := fun i h st b hb => by
    obtain ⟨⟨old, he⟩, ⟨o, eo, c, d⟩, _⟩ := st
    rcases List.mem_cons.mp hb with rfl | hb
    · exact ⟨_, he, fun v z => by cases z⟩
    · have eb : b = it := by simpa using hb
      subst eb
      exact ⟨o, eo, fun v z => by rw [d] at z; cases z⟩
  keep := fun i h h' st k => by
    obtain ⟨⟨old, he⟩, hit, hne⟩ := st
    exact ⟨⟨old, k e (by simp) _ he⟩, hit.at fun o x => k it (by simp) o x, hne⟩
  item := by
    intro X hP hw hK hc i pins s σ H E I hf st hg
    subst hP hw hK
    obtain ⟨⟨old, he⟩, hit, hne⟩ := st
    obtain ⟨xs, x, hq, hx⟩ := hg
    obtain ⟨its, rv, p, hz⟩ := I.list hq
    obtain ⟨u, hu, ru⟩ := rv.get hx
    refine wpAny_pyNext_enum_item he hit p.isList (x := u) (by simpa using hu) hne fun h' ho hit' hT hsz hk => ?_
    refine ⟨_, rfl, wpAny_letOwnedTupleGo_enum (s := { s with heap := h', toks := s.toks + 1 }) ho fun h'' he' hs' => ?_⟩
    have hlt : e < s.heap.objs.size := Heap.lt_size he
    have hTe : s.heap.objs.size ≠ e := Nat.ne_of_gt hlt
    have kk : ∀ b o, b ∉ [e, it] → s.heap.get? b = some o → h''.get? b = some o := fun b o hb q => by
      have h1 : b ≠ e := fun z => hb (by simp [z])
      have h2 : b ≠ it := fun z => hb (by simp [z])
      exact (hs'.2 b h1).trans (hk b o h1 h2 q)
    have I1 : Inv X pins σ H { s with heap := h'', toks := s.toks + 1 } := I.turns kk hf
    have hT' : h''.get? s.heap.objs.size = some { cls := .type "tuple", data := .seq #[.int i s.toks, u] } := (hs'.2 _ hTe).trans hT
    have hfr : H s.heap.objs.size = none := I.hok.fresh (Nat.le_refl _)
    have I2 := I1.trackT (T := s.heap.objs.size) (xs := [.int i, x]) (its := [.int i s.toks, u]) hfr ⟨_, hT', rfl, _, rfl⟩ (.cons ⟨_, rfl⟩ (.cons ru .nil)) (by show 2 ≤ sizeLine; rw [sizeLine_eq]; decide)
      (fun o q => absurd (Heap.lt_size q) (Nat.not_lt.mpr I.sz)) fun p hp z => absurd (Heap.lt_size (I.pin p hp).1) (by rw [z]; exact Nat.lt_irrefl _)
    refine ⟨.ref s.heap.objs.size, _, I2, rfl, ⟨_, hfr, rfl, fun ys hy => ⟨x, by rw [I.list_inj hy hq]; exact hx, rfl⟩⟩, ⟨⟨_, by simpa using he'⟩, hit'.at fun o q => (hs'.2 it hne.symm).trans q, hne⟩, fun b hb => ?_⟩
    obtain ⟨o, eo, _⟩ : ∃ o, s.heap.get? b = some o ∧ True := by
      rcases List.mem_cons.mp hb with rfl | hb
      · exact ⟨_, he, trivial⟩
      · have eb : b = it := by simpa using hb
        subst eb
        obtain ⟨o, eo, _⟩ := hit
        exact ⟨o, eo, trivial⟩
    rw [upd_ne (Nat.ne_of_lt (Heap.lt_size eo))]
    exact (hf b hb).1
  done := by
    intro X hP hw hK hc i pins s σ H E I hf st hg
    subst hP hw hK
    obtain ⟨⟨old, he⟩, hit, hne⟩ := st
    obtain ⟨xs, hq, hx⟩ := hg
    obtain ⟨its, rv, p, hz⟩ := I.list hq
    have hl := rv.length
    exact wpAny_pyNext_enum_end (I.ok.hd hc) he hit p.isList (Array.getElem?_eq_none (by simp; omega)) fun h' eb => ⟨rfl, I.turns (t' := s.toks) (fun b o hb q => eb b o (fun z => hb (by simp [z])) q) hf⟩
  self := fun _ _ _ _ _ st h => by
    obtain ⟨⟨old, he⟩, _⟩ := st
    exact wpAny_pyIter_enum he h
section
variable {X : Cx} {elts : List Expr} {k : Nat} {tpos : Pos}
def iEnum (K : PySem.W.Frag) (ta : TA) : TI := fun σ H R => ta σ H fun vs H1 => ∃ a, vs = [.ref a] ∧ (∃ xs, Rd H1 a (.lst xs)) ∧ R (Ite K a) H1
theorem pi_enum (K : PySem.W.Frag) (hK : X.K = K) {a : Expr} {ta : TA} {p pos : Pos} (hg : Gl X "enumerate") (hm : X.mg "enumerate" = none) (ha : PA X [a] ta) (hs : starEach [a] X.env = [(false, eval a X.env)] := by rfl) :
    PI X (.Tuple elts k tpos) (.Call (.Name "enumerate" p) [a] [] pos) (iEnum K ta) := by
  subst hK
  intro pins s σ H R I h
  refine Call_ (ld_blt I hg hm PyProof.Rows.Boot.«enumerate» (PyProof.Rows.callWith_type1 (thn (ha pos pins s σ H _ I h) fun us s1 ⟨vs, H1, I1, r1, q1⟩ => ?_) hs rfl))
  obtain ⟨l, rfl, ⟨xs, hq⟩, q⟩ := q1
  obtain ⟨u, rfl, ru⟩ := vals1 r1
  cases ru
  obtain ⟨hz, its, n, rv, hl⟩ := (show ObjOk X.prog X.w H1 s1.heap l (.lst xs) from hq.ok I1.hok)
  refine call_enumerate_1 hl fun h' he hit hsz hk => ?_
  have I2 : Inv X pins σ H1 { s1 with heap := h' } := I1.kept (t' := s1.toks) hk
  refine wpAny_pyIter_enum he ?_
  refine ⟨s1.heap.objs.size + 1, [s1.heap.objs.size + 1, s1.heap.objs.size], _, _, H1, rfl, I2, turn_enum l _ _, ⟨⟨_, by simpa using he⟩, hit, Nat.succ_ne_self _⟩, fun b hb => ?_, q⟩
  rcases List.mem_cons.mp hb with rfl | hb
  · exact I1.fpOk (Nat.le_succ _) (I1.hok.fresh (Nat.le_succ _))
  · have eb : b = s1.heap.objs.size := by simpa using hb
    subst eb
    exact I1.fpOk (Nat.le_refl _) (I1.hok.fresh (Nat.le_refl _))
theorem vals_of : ∀ {xs : List V} {us : List Value}, xs.length = us.length → (∀ (j : Nat) (x : V) (u : Value), xs[j]? = some x → us[j]? = some u → RelV x u) → Vals xs us
  | [], [], _, _ => .nil
  | [], _ :: _, h, _ => by cases h
  | _ :: _, [], h, _ => by cases h
  | x :: xs, u :: us, h, k => .cons (k 0 x u rfl rfl) (vals_of (Nat.succ.inj h) fun j y v h1 h2 => k (j + 1) y v (by simpa using h1) (by simpa using h2))
theorem relV_key {k : Key} {v : Value} (h : keyIs k v = true) : RelV (kV k) v := by
  rcases keyIs_shape h with ⟨i, t, rfl, rfl⟩ | ⟨x, t, rfl, rfl⟩
  · exact ⟨t, rfl⟩
  · exact ⟨t, rfl⟩

theorem call_list_dict (hc : X.calm = true) : CallR X (.type "list") (fun xs H Q => ∃ (p : Addr) (kvs : List (Key × V)), xs = [.ref p] ∧ Rd H p (.dK kvs) ∧ ∀ l, H l = none → Q (.ref l) (upd H l (.lst (kvs.map fun kv => kV kv.1)))) := by
  intro pins s σ H xs us Q I r h
  obtain ⟨p, kvs, rfl, hq, q⟩ := h
  obtain ⟨u, rfl, rx⟩ := vals1 r
  cases rx
  obtain ⟨hz, lo, vs, rel, hD⟩ := dk_rd I.hok hq
  obtain ⟨ep, hat⟩ := hD.dictAt
  have hlen : kvs.length = vs.length := rel.length
  refine PySem.W.kdl_call (PySem.W.kdl_dict (knd := mixKind X.prog X.w) (kvs := vs) (ep := ep) lo) (I.ok.hd hc) hat (by rw [← hlen]; exact hz) fun h' tk acc' c' hk hS hit => ?_
  have rv : Vals (kvs.map fun kv => kV kv.1) acc'.toList := by
    refine vals_of (by rw [List.length_map, hlen]; exact (Array.length_toList.trans hit.1).symm) fun j x u h1 h2 => ?_
    obtain ⟨k, y, hy, hkd⟩ := hit.2 j u (by rw [← Array.getElem?_toList]; exact h2)
    have hkeys := rel.keys
    rw [List.getElem?_map] at h1
    have e1 : (kvs.map (·.1))[j]? = some k := by rw [hkeys, List.getElem?_map, hy]; rfl
    rw [List.getElem?_map] at e1
    cases e2 : kvs[j]? with
    | none => rw [e2] at h1; cases h1
    | some kv =>
      rw [e2] at h1 e1
      have e3 : kV kv.1 = x := Option.some.inj h1
      have e4 : kv.1 = k := Option.some.inj e1
      rw [← e3, e4]
      exact relV_key hkd
  exact ⟨.ref s.heap.objs.size, _, I.laid (t' := tk) hk (Nat.le_refl _) (show ObjOk X.prog X.w _ h' _ (.lst _) from ⟨by rw [List.length_map]; exact hz, acc'.toList, c', rv, by simpa using hS⟩), rfl, q _ (I.hok.fresh (Nat.le_refl _))⟩
end

def GivesG (J : It) (n : Nat) (H : Hp) (item : Nat → V → Hp → Prop) : Prop := ∀ i H', Same H H' → Plain H' → (i < n → J.go i H' ∧ ∀ x H3, J.yld i H' x H3 → Same H' H3 ∧ Plain H3 ∧ item i x H3) ∧ J.stop n H'
theorem GivesN.g {J : It} {n : Nat} {H : Hp} {item : Nat → V → Prop} (h : GivesN J n H item) : GivesG J n H fun i x _ => item i x := fun i H' s p =>
  ⟨fun hi => ⟨((h i H' s).1 hi).1, fun x H3 hy => by obtain ⟨e, it⟩ := ((h i H' s).1 hi).2 x H3 hy; subst e; exact ⟨Same.refl _, p, it⟩⟩, (h i H' s).2⟩
end L2


set_option linter.all false
set_option maxRecDepth 100000
set_option maxHeartbeats 4000000
namespace L2
open PySem PySem.Spec PyProof.Rows
section
variable {X : Cx} {elt tg iter : Expr} {ifs : List Expr} {scope : Scope} {cl : List (Str × Addr)} {N : List Str} {ρ : List (Option Nat)} {pos : Pos} {wi : TI} {g : TG} {tc : TT} {te : TE}

theorem comp_core (hc : X.calm = true) (S : CompScope X N ρ scope cl)
    (hg : ∀ C s₀ H₀ ex pn, PG (cxComp X N scope cl C s₀ H₀ ex pn) tg g) (ht : ∀ C s₀ H₀ ex pn, PTs (cxComp X N scope cl C s₀ H₀ ex pn) ifs tc) (he : ∀ C s₀ H₀ ex pn, PE (cxComp X N scope cl C s₀ H₀ ex pn) elt te)
    {pins : List (Addr × Obj)} {s2 : Shared} {σ : St} {H2 : Hp} {it : Addr} {fp : List Addr} {tn : Nat → Heap → Prop} {J : It} {Q : VK} {RR : Value → Addr → Result → Shared → Prop} (I2 : Inv X pins σ H2 s2) (T : Turn X.prog X.w X.K tg J fp it tn) (st2 : tn 0 s2.heap) (f2 : ∀ b ∈ fp, FpOk X pins H2 b)
    (q2 : ∀ l, H2 l = none → CompOk J g tc te Q l (pick ρ σ) H2)
    (fin : ∀ (l C : Addr) (s5 : Shared) (H4 : Hp) (m : Str → Option Value), Inv X pins σ H4 s5 → FpOk X pins H4 C → s5.heap.Ns C m → Q (.ref l) H4 → RR (.ref l) C (.ok .next) s5) :
    wpAny (model X.prog X.w) X.A (newList []) (fun acc s3 => wpAny (model X.prog X.w) X.A (newFunctionEnv scope X.env.globals cl [] X.env.qual none .none (some X.env)) (fun cenv s4 =>
      codeAny (model X.prog X.w) X.A (.compStart (.ListComp elt [⟨tg, iter, ifs, 0⟩] scope pos) 0 (.ref it) acc { cenv with scope := relabel scope X.env }) (RR acc cenv.locals) s4) X.xe s3) X.xe s2 := by
  obtain ⟨W, ⟨m0, w0⟩, turn⟩ := q2 _ (I2.hok.fresh (Nat.le_refl _))
  refine wpAny_newObj_type (wpAny_newFunctionEnv S.nocell (by intro y hy; simp at hy) (fun h₁ hns₁ hsb₁ => ?_) S.kind)
  dsimp only at hns₁ hsb₁ ⊢
  have I3 : Inv X pins σ (upd H2 s2.heap.objs.size (.lst [])) { s2 with heap := s2.heap.push { cls := .type "list", dict := none, data := .seq ([] : List Value).toArray } } :=
    I2.laid (t' := s2.toks) (fun b u eo => Heap.get?_push_of_some _ eo) (Nat.le_refl _) ⟨by simp, [], 0, .nil, Heap.get?_push_size _ rfl⟩
  generalize hs3 : ({ s2 with heap := s2.heap.push { cls := .type "list", dict := none, data := .seq ([] : List Value).toArray } } : Shared) = s3 at I3
  have es3 : s2.heap.push { cls := .type "list", dict := none, data := .seq ([] : List Value).toArray } = s3.heap := by rw [← hs3]
  rw [es3] at hns₁ hsb₁ ⊢
  have f3 : ∀ b ∈ fp, FpOk X pins (upd H2 s2.heap.objs.size (.lst [])) b := fun b hb => by
    obtain ⟨o, eo, _⟩ := T.obj _ _ st2 b hb
    exact ⟨by rw [upd_ne (Nat.ne_of_lt (Heap.lt_size eo))]; exact (f2 b hb).1, (f2 b hb).2⟩
  have lt3 : ∀ b ∈ fp, b < s3.heap.objs.size := fun b hb => by
    obtain ⟨o, eo, _⟩ := T.obj _ _ st2 b hb
    rw [← es3, Heap.size_push]
    exact Nat.lt_succ_of_lt (Heap.lt_size eo)
  have old : ∀ b o, s3.heap.get? b = some o → h₁.get? b = some o := fun b o eo => hsb₁.extBut b o (Nat.ne_of_lt (Heap.lt_size eo)) (Heap.get?_push_of_some _ eo)
  have Ic : Inv (cxComp X N scope cl s3.heap.objs.size s3 (upd H2 s2.heap.objs.size (.lst [])) fp (X.pn ++ pins)) [] (pick ρ σ) (upd H2 s2.heap.objs.size (.lst [])) { s2 with heap := h₁, toks := s2.toks + ([] : List (Str × Value)).length } :=
    inv_comp S I3 f3 lt3 hns₁ old (by rw [← hs3] <;> rfl)
  have stat : ∀ {pl : List (Addr × Obj)} {H' : Hp}, pl = [] → (∀ b ∈ fp, H' b = none) → ∀ b ∈ fp, FpOk (cxComp X N scope cl s3.heap.objs.size s3 (upd H2 s2.heap.objs.size (.lst [])) fp (X.pn ++ pins)) pl H' b := fun {pl H'} epl hn b hb => by
    subst epl
    refine ⟨hn b hb, Nat.ne_of_lt (lt3 b hb), fun z => ?_, .inl hb, fun x c h1 => (f2 b hb).2.2.2.2.1 x c (S.sub x c h1), fun p hp => (f2 b hb).2.2.2.2.2 p (by simpa using hp)⟩
    rcases List.mem_cons.mp (I3.stkSub b z) with z | z
    · exact (f2 b hb).2.1 z
    · exact (f2 b hb).2.2.1 z
  have st4 : tn 0 h₁ := T.keep _ _ _ st2 fun b hb o eo => old b o (by rw [← es3]; exact Heap.get?_push_of_some _ eo)
  have loop : codeAny (model X.prog X.w) X.A (.compLoop (.ListComp elt [⟨tg, iter, ifs, 0⟩] scope pos) 0 (.ref it) (.ref s2.heap.objs.size) (compEnvC scope cl s3.heap.objs.size X.env))
      (RR (.ref s2.heap.objs.size) s3.heap.objs.size) { s2 with heap := h₁, toks := s2.toks + ([] : List (Str × Value)).length } := by
    refine comp_loop (fun n s' => ∃ i ys τ H', Inv (cxComp X N scope cl s3.heap.objs.size s3 (upd H2 s2.heap.objs.size (.lst [])) fp (X.pn ++ pins)) [] τ H' s' ∧ tn i s'.heap ∧ (∀ b ∈ fp, H' b = none) ∧ W i n ys τ H') ?_ m0
      ⟨0, [], _, _, Ic, st4, fun b hb => (f3 b hb).1, w0⟩
    rintro n s4 ⟨i, ys, τ, H4, I4, st, fr4, w4⟩
    rcases turn i n ys τ H4 w4 with ⟨stop, qn⟩ | ⟨go, step⟩
    · refine thn (T.done (cxComp X N scope cl s3.heap.objs.size s3 (upd H2 s2.heap.objs.size (.lst [])) fp (X.pn ++ pins)) rfl rfl rfl hc i [] s4 τ H4 _ I4 (stat rfl fr4) st stop) fun r s5 ⟨hr, I5⟩ => ?_
      subst hr
      obtain ⟨m5, hn5, _⟩ := I5.loc
      have get' : ∀ b o, s5.heap.get? b = some o → s5.heap.get? b = some o := fun b o eo => eo
      have un : Un (frs X.stack) fp (upd H2 s2.heap.objs.size (.lst [])) H4 s3.heap s5.heap :=
        ⟨fun b o eo n1 n2 n3 => I5.base.keep b o eo n1 n2 n3, fun b o eo n1 n2 n3 => I5.base.slot b o eo n1 n2 n3, I5.base.free, fun b o eo n1 => I5.base.there b o eo n1, I5.base.tups, I5.base.frzs, I5.base.tbls⟩
      have I6 : Inv X pins σ H4 s5 := I3.call' (s' := s5) (ch := fp) (show s5.os = s3.os from I5.os) un I5.hok I5.bare fun b hb => ⟨(f3 b hb).2.2.2.1, (f3 b hb).2.1, (f3 b hb).2.2.2.2.1, (f3 b hb).2.2.2.2.2⟩
      have fr : H4 s3.heap.objs.size = none := I5.free
      exact fin _ _ s5 H4 m5 I6 (I3.fpOk (Nat.le_refl _) fr) hn5 qn
    · refine thn (T.item (cxComp X N scope cl s3.heap.objs.size s3 (upd H2 s2.heap.objs.size (.lst [])) fp (X.pn ++ pins)) rfl rfl rfl hc i [] s4 τ H4 _ I4 (stat rfl fr4) st go) fun r s5 ⟨u, hr, h5⟩ => ?_
      subst hr
      refine thn h5 fun _ s6 ⟨x, H6, I6, r6, y6, st6, fr6⟩ => ?_
      have I6' := I6.pinned (stat rfl fr6) (T.obj _ _ st6)
      have again : ∀ {s9 : Shared} {τ9 : St} {H9 : Hp} {zs : List V} {m' : Nat}, Inv (cxComp X N scope cl s3.heap.objs.size s3 (upd H2 s2.heap.objs.size (.lst [])) fp (X.pn ++ pins)) ([] ++ pinsAt fp s6.heap) τ9 H9 s9 → m' < n → W (i + 1) m' zs τ9 H9 →
          ∃ m, m < n ∧ ∃ i ys τ H', Inv (cxComp X N scope cl s3.heap.objs.size s3 (upd H2 s2.heap.objs.size (.lst [])) fp (X.pn ++ pins)) [] τ H' s9 ∧ tn i s9.heap ∧ (∀ b ∈ fp, H' b = none) ∧ W i m ys τ H' := fun {s9 τ9 H9 zs m'} I9 hm w9 => by
        refine ⟨m', hm, i + 1, zs, τ9, H9, I9.unpinned, T.keep _ _ _ st6 fun b hb o eo => (I9.pin (b, o) (List.mem_append_right _ (List.mem_append_right _ (mem_pinsAt hb eo)))).1, fun b hb => ?_, w9⟩
        obtain ⟨o, eo, d⟩ := T.obj _ _ st6 b hb
        exact (I9.pin (b, o) (List.mem_append_right _ (List.mem_append_right _ (mem_pinsAt hb eo)))).2.1
      refine thn (hg _ _ _ _ _ _ s6 τ H6 x u _ I6' r6 (step x H6 y6)) fun _ s7 ⟨τ7, H7, I7, q7⟩ => ?_
      refine thn (ht _ _ _ _ _ _ s7 τ7 H7 _ I7 q7) fun ok s8 ⟨H8, I8, q8⟩ => ?_
      cases ok with
      | false =>
        rw [if_neg Bool.false_ne_true] at q8 ⊢
        obtain ⟨m', hm, w9⟩ := q8
        exact again I8 hm w9
      | true =>
        rw [if_pos rfl] at q8 ⊢
        refine thn (he _ _ _ _ _ _ s8 τ7 H8 _ I8 q8) fun y s9 ⟨z, H9, I9, r9, hl9, hz9, m', hm, w9⟩ => ?_
        refine thn (mt_append _ s9 τ7 H9 (.ref s2.heap.objs.size) [z] (.ref s2.heap.objs.size) [y] (fun _ H' => H' = upd H9 s2.heap.objs.size (.lst (ys ++ [z]))) I9 rfl (.cons r9 .nil) ⟨_, ys, z, rfl, rfl, hl9, hz9, rfl⟩) fun _ s10 ⟨_, H10, I10, _, e10⟩ => ?_
        subst e10
        exact again I10 hm w9
  exact codeAny_compStart_list loop (T.self _ 0 _ _ _ st4 loop)

def tSetC (i : Nat) (te : TE) : TS := fun D σ H => te σ H fun v H1 => D.nx (σ.set i (some v)) H1
theorem ps_setC {i : Nat} {y : Str} {py spos : Pos} (hN : X.N.Nodup) (hi : X.N[i]? = some y) (hy : X.env.scope.names.lookup y = some .local) (hc : X.calm = true) (S : CompScope X N ρ scope cl) (hI : PI X tg iter wi)
    (hg : ∀ C s₀ H₀ ex pn, PG (cxComp X N scope cl C s₀ H₀ ex pn) tg g) (ht : ∀ C s₀ H₀ ex pn, PTs (cxComp X N scope cl C s₀ H₀ ex pn) ifs tc) (he : ∀ C s₀ H₀ ex pn, PE (cxComp X N scope cl C s₀ H₀ ex pn) elt te)
    (hsw : swapsWith (.ListComp elt [⟨tg, iter, ifs, 0⟩] scope pos) (some (.Name y py)) spos.line X.env = pure true := by rfl) (hs : ∀ x, foldedSetIterable iter X.env x = pure x := by intro _; rfl) :
    PS X (.Assign [.Name y py] (.ListComp elt [⟨tg, iter, ifs, 0⟩] scope pos) spos) (tSetC i (tComp ρ wi g tc te)) := by
  intro pins s σ H D I h
  rw [exec_Assign_Name_used _ _ _ _ hsw]
  refine wpAny_bind (wpAny_standAt (wpAny_bind ?_))
  show wpAny _ X.A (do let _ ← comprehension (.ListComp elt [⟨tg, iter, ifs, 0⟩] scope pos) scope X.env _ (newList []) false (eval iter X.env) (some (assign (.Name y py) X.env))) _ _ s
  refine wpAny_bind (wpAny_mono (wpAny_comprehension_free (use := some (assign (.Name y py) X.env)) (Q := fun _ s' => SP X pins D .next s') rfl hs S.clos S.kind S.loc
    (thn (hI pins s σ H _ I h) fun v s1 h1 => thn h1 fun itv s2 h2 => ?_)) (fun _ s' hq => wpAny_pure (wpAny_pure hq)) fun _ _ e => e)
  obtain ⟨it, fp, tn, J, H2, e, I2, T, st2, f2, q2⟩ := h2
  subst e
  refine comp_core (RR := fun acc C => compPost (model X.prog X.w) X.A X.xe (some (assign (.Name y py) X.env)) (fun _ s' => SP X pins D .next s') acc C) hc S hg ht he I2 T st2 f2 q2 fun l C s5 H4 m I6 fC hn q => ?_
  obtain ⟨oC, es, ep, hoC, hdC, hrest⟩ := id hn
  have I7 := I6.pinned (fp := [C]) (fun b hb => by rw [List.mem_singleton.mp hb]; exact fC) (fun b hb => ⟨oC, by rw [List.mem_singleton.mp hb]; exact hoC, fun v z => by rw [hdC] at z; cases z⟩)
  show wpAny _ X.A (assign (.Name y py) X.env (.ref l)) _ _ s5
  refine wpAny_assign_Name (store_ok I7 hN hi (.inl hy) (v := .ref l) rfl (fun s6 I8 => ?_) (.inr hy))
  have hpin := (I8.pin (C, oC) (List.mem_append_right _ (List.mem_append_right _ (mem_pinsAt (List.mem_singleton.mpr rfl) hoC))))
  refine ⟨m, ⟨oC, es, ep, hpin.1, hdC, hrest⟩, fun h' hs' => ?_⟩
  have fC' : ∀ b ∈ [C], FpOk X pins H4 b := fun b hb => by rw [List.mem_singleton.mp hb]; exact fC
  exact ⟨_, H4, I8.unpinned.turns (t' := s6.toks) (fun b o hb eo => (hs'.2 b (fun z => hb (List.mem_singleton.mpr z))).trans eo) fC', q⟩
end
end L2


set_option linter.all false
set_option maxRecDepth 100000
set_option maxHeartbeats 4000000
namespace L2
open PySem PySem.Spec PyProof.Rows
theorem mulOk_small {x : Str} {n : Int} (h1 : x.length ≤ 1000) (h2 : -1000 ≤ n) (h3 : n ≤ 1000) : MulOk x n := by
  refine ⟨?_, fun hn _ => ?_, fun hn _ => ?_⟩
  · rw [Bool.or_eq_false_iff]
    exact ⟨decide_eq_false (by omega), decide_eq_false (by omega)⟩
  · intro hgt
    have hn' : 0 < n := by omega
    have h4 := (Int.ediv_lt_iff_lt_mul hn').mp hgt
    have h5 : (x.length : Int) * n ≤ 1000 * 1000 := Int.mul_le_mul (by omega) h3 (by omega) (by omega)
    omega
  · show decide (x.length * n.toNat > sizeLine) = false
    refine decide_eq_false ?_
    have h5 : x.length * n.toNat ≤ 1000 * 1000 := Nat.mul_le_mul h1 (by omega)
    rw [sizeLine_eq]
    omega
theorem op_mul_str {X : Cx} : OpR X (binaryOp .Mult) (fun x y H Q => ∃ i n, x = .str i ∧ y = .int n ∧ i.length ≤ 1000 ∧ -1000 ≤ n ∧ n ≤ 1000 ∧ Q (.str (Txt.mul i n)) H) := by
  intro pins s σ H x y v u Q I rx ry h
  obtain ⟨i, n, rfl, rfl, h1, h2, h3, q⟩ := h
  obtain ⟨t, rfl⟩ := rx
  obtain ⟨t', rfl⟩ := ry
  exact SB.mul (mulOk_small h1 h2 h3) fun t' k => ⟨.str _, H, I.tok _, ⟨_, rfl⟩, q⟩
theorem atI_some {α : Type} {xs : List α} {i : Int} (h0 : 0 ≤ i) (h1 : i < xs.length) : ∃ v, atI xs i = some v ∧ v ∈ xs := by
  have hj : i.toNat < xs.length := by omega
  have e : ((i.toNat : Nat) : Int) = i := by omega
  refine ⟨xs[i.toNat], ?_, List.getElem_mem hj⟩
  have h := atI_nat (xs := xs) (j := i.toNat) (v := xs[i.toNat]) (by simp [hj])
  rw [e] at h
  exact h
theorem slen (a b : Str) : (a ++ b).length = a.length + b.length := by
  show (a ++ b).cps.size = a.cps.size + b.cps.size
  exact Array.size_append ..
theorem in62 {x : Int} (h1 : 0 ≤ x) (h2 : x ≤ 1000) : (-(2 ^ 62) : Int) ≤ x ∧ x < 2 ^ 62 := ⟨Int.le_trans (by decide) h1, Int.lt_of_le_of_lt h2 (by decide)⟩
theorem only_plain {H : Hp} (h : Only H) : Plain H := fun a o e => by
  rcases h a with z | ⟨ob, xs, z⟩
  · rw [e] at z; cases z
  · rw [e] at z; cases z; rfl

end L2


set_option linter.all false
set_option maxRecDepth 100000
set_option maxHeartbeats 4000000
namespace L2
open PySem PySem.Spec PyProof.Rows
def notStar : Expr → Bool
  | .Starred _ _ => false
  | _ => true
theorem star_cons {e : Expr} {es : List Expr} {env : Env} (h : notStar e = true) : starEach (e :: es) env = (false, eval e env) :: starEach es env := by
  cases e <;> first | rfl | cases h

theorem pa_cs {X : Cx} {e : Expr} {es : List Expr} {te : TE} {t : TA} (ha : PE X e te) (hr : PA X es t) (h : notStar e = true := by rfl) : PA X (e :: es) (tCons te t) := pa_cons ha hr (star_cons h)

def newIn (H H' : Hp) : Hp := fun b => if (H b).isNone = true then H' b else none
theorem HT.getItem_tuple_whole {prog : Program} {w : World} {A : Around} {E : Value → Shared → Prop} {s : Shared} {t sl : Addr} {items : Array Value} {vl vu : Value} {lo hi : Option Int} {Q : Value → Shared → Prop} (ht : IsTup s.heap t items) (hs : s.heap.IsSliceOf sl vl vu .none) (pl : IsPart vl lo) (pu : IsPart vu hi)
    (hw : HT.sIx items.size 0 lo = 0 ∧ HT.sIx items.size items.size hi = items.size) (h : Q (.ref t) s) : wpAny (model prog w) A (getItem (.ref t) (.ref sl)) Q E s := by
  obtain ⟨os, hos, hcs, hds⟩ := id hs
  have hTs : s.TypeIs (.ref sl) "slice" := ⟨os, hos, hcs⟩
  unfold getItem
  try with_reducible refine wpAny_holding ?_
  first | refine wpAny_bind (wpAny_pure ?_) | skip
  refine wpAny_bind (wpAny_sequenceKey ht.typeIs (by decide) ?_)
  refine wpAny_bind (wpAny_callSpecial?_slot (name := Str.ofString "__getitem__") ht.typeIs PyProof.Rows.slot_tuple_getitem
    (wpAny_call_entry PyProof.Rows.slot_tuple_getitem ht.typeIs entry_tuple_getitem ?_ (args_tuple_getitem _ _)))
  show wpAny _ _ (Builtin.Tuple.tupleItemsOf (.ref t) >>= _) _ _ s
  refine wpAny_bind (tupleItemsOf_ ht ?_)
  refine wpAny_bind (wpAny_typeOf hTs ?_)
  rw [if_pos (by decide)]
  refine wpAny_bind (HT.sliceApplied_gen hs pl pu ?_)
  have hyes : (((HT.sIx items.size 0 lo : Nat) : Int) == 0 && (1 : Int) == 1 && (HT.sIx items.size items.size hi - HT.sIx items.size 0 lo) == items.size) = true := by
    rw [hw.1, hw.2]
    simp
  show wpAny _ _ (if (((HT.sIx items.size 0 lo : Nat) : Int) == 0 && (1 : Int) == 1 && (HT.sIx items.size items.size hi - HT.sIx items.size 0 lo) == items.size) = true then _ else _) _ _ s
  rw [if_pos hyes]
  refine wpAny_bind ?_
  unfold Builtin.Tuple.tupleIsExact
  refine wpAny_bind (wpAny_typeOf ht.typeIs (wpAny_pure ?_))
  rw [if_pos (by decide)]
  exact wpAny_bind (wpAny_rule (wpAny_pure ⟨_, rfl, wpAny_pure h⟩))
section
variable {X : Cx}

def rSlA : V → Option Int → Option Int → Hp → VK → Prop := fun x lo hi H Q => ∃ a xs, x = .ref a ∧ H a = some (.tup xs) ∧ ∀ p H', Same H H' → (Plain H → Plain H') → (H' = H ∨ H p = none) → H' p = some (.tup (cutV xs lo hi)) → Q (.ref p) H'
theorem sl_tupA : SlR X rSlA := by
  intro pins s σ H x v vl vu lo hi sl Q I rx hs pl pu h
  obtain ⟨a, xs, rfl, hx, q⟩ := h
  by_cases hw : HT.sIx xs.length 0 lo = 0 ∧ HT.sIx xs.length xs.length hi = xs.length
  · cases rx
    obtain ⟨its, r, ht, hz⟩ := I.tuple (SqT.of hx)
    have hlen : its.toArray.size = xs.length := by rw [List.size_toArray]; exact r.length.symm
    refine ⟨"tuple", _, PyProof.Rows.slot_tuple_getitem.lookup, ht.typeIs, ?_⟩
    have e : cutV xs lo hi = xs := by
      unfold cutV
      rw [hw.1, hw.2, List.drop_zero, Nat.sub_zero]
      exact List.take_of_length_le (Nat.le_refl _)
    exact HT.getItem_tuple_whole ht hs pl pu (by rw [hlen]; exact hw) ⟨.ref a, H, I, rfl, q a H (Same.refl _) id (.inl rfl) (by rw [e]; exact hx)⟩
  · exact sl_tup pins s σ H (.ref a) v vl vu lo hi sl Q I rx hs pl pu ⟨a, xs, rfl, SqT.of hx, hw, fun p hp => q p _ (Same.upd hp) (fun z => z.upd rfl) (.inr hp) upd_same⟩
def rCatA : R2 := fun x y H Q => ∃ a b xs ys, x = .ref a ∧ y = .ref b ∧ H a = some (.tup xs) ∧ H b = some (.tup ys) ∧ xs.length + ys.length ≤ sizeLine ∧ ∀ p H', Same H H' → (Plain H → Plain H') → (H' = H ∨ H p = none) → H' p = some (.tup (xs ++ ys)) → Q (.ref p) H'
end
end L2


set_option linter.all false
namespace FR
open PySem L2
structure QSs (X : Cx) (st : List Stmt) (t : TS) : Prop where h : PSs X st t
structure QS (X : Cx) (st : Stmt) (t : TS) : Prop where h : PS X st t
theorem qss_cons {X : Cx} {st : Stmt} {rest : List Stmt} {t u : TS} (h1 : QS X st t) (h2 : QSs X rest u) : QSs X (st :: rest) (tSeq t u) := ⟨pss_cons h1.h h2.h⟩
theorem qss_one {X : Cx} {st : Stmt} {t : TS} (h1 : QS X st t) : QSs X [st] t := ⟨pss_one h1.h⟩
structure QE (X : Cx) (e : Expr) (t : TE) : Prop where h : PE X e t
structure QA (X : Cx) (es : List Expr) (t : TA) : Prop where h : PA X es t
theorem qex {X : Cx} {st : List Stmt} {q : TS → Prop} (h : ∃ t, QSs X st t ∧ q t) : ∃ t, PSs X st t ∧ q t := let ⟨t, a, b⟩ := h; ⟨t, a.h, b⟩
end FR


set_option linter.all false
set_option maxRecDepth 100000
set_option maxHeartbeats 4000000
namespace L2
open PySem PySem.Spec PyProof.Rows
section
variable {X : Cx}
theorem mt_str_startswith : MtR X "str.startswith" (fun x vs H Q => ∃ z y, x = .str z ∧ vs = [.str y] ∧ Q (.bl (Txt.startswith z y)) H) := by
  intro pins s σ H x xs v us Q I rx rs h
  obtain ⟨z, y, rfl, rfl, q⟩ := h
  obtain ⟨t, rfl⟩ := rx
  obtain ⟨u, rfl, t', rfl⟩ := rs.one
  exact SC.startswith ⟨.bl _, H, I, rfl, q⟩
end

def splitC (c : Nat) : List Nat → List (List Nat)
  | [] => [[]]
  | a :: r => if a = c then [] :: splitC c r else match splitC c r with
    | [] => [[a]]
    | w :: ws => (a :: w) :: ws
end L2


set_option linter.all false
set_option maxRecDepth 100000
set_option maxHeartbeats 4000000
namespace L2
open PySem PySem.Spec PyProof.Rows
section
variable {X : Cx}
theorem vals_int : ∀ {bs : List Int} {us : List Value} {i : Nat} {v : Value}, Vals (bs.map V.int) us → us[i]? = some v → ∃ b t, bs[i]? = some b ∧ v = .int b t := by
  intro bs us i v r e
  cases e2 : (bs.map V.int)[i]? with
  | none =>
    have := r.none_of e2
    rw [this] at e; cases e
  | some x =>
    obtain ⟨u, hu, ru⟩ := r.get e2
    rw [hu] at e; cases e
    rw [List.getElem?_map] at e2
    cases e3 : bs[i]? with
    | none => rw [e3] at e2; cases e2
    | some b =>
      rw [e3] at e2
      have e4 : V.int b = x := Option.some.inj e2
      subst e4
      obtain ⟨t, ht⟩ := ru
      exact ⟨b, t, rfl, ht⟩
theorem preSum_take (ns : List Int) : ∀ k, k ≤ ns.length → preSum (fun i => (ns[i]?).getD 0) k = (ns.take k).sum
  | 0, _ => by simp [preSum]
  | k + 1, h => by
    have ih := preSum_take ns k (by omega)
    have e : ns[k]? = some ns[k] := List.getElem?_eq_getElem (by omega)
    show preSum (fun i => (ns[i]?).getD 0) k + (ns[k]?).getD 0 = _
    rw [ih, List.take_add_one, e, List.sum_append]
    simp
theorem call_sum (hc : X.calm = true) : CallR X (.builtin "sum") (fun xs H Q => ∃ (p : Addr) (ns : List Int), xs = [.ref p] ∧ SqL X.K H p (ns.map V.int) ∧ Q (.int ns.sum) H) := by
  intro pins s σ H xs us Q I r h
  obtain ⟨p, ns, rfl, hq, q⟩ := h
  obtain ⟨u, rfl, rx⟩ := vals1 r
  cases rx
  obtain ⟨its, rv, pl, hz⟩ := I.list hq
  have hl := pl.isList
  have hlt : p < s.heap.objs.size := by obtain ⟨_, e, _⟩ := hl; exact Heap.lt_size e
  have hlen : ns.length = its.length := by have := rv.length; rwa [List.length_map] at this
  refine call_sum_walkG (wpAny_pyIter_list hl ?_)
  refine ⟨s.heap.objs.size, [s.heap.objs.size, p], [s.heap.objs.size], its.toArray.size, _, _, fun i => (ns[i]?).getD 0, rfl, Walks.list (A := X.A.in1) (I.ok.hd hc) _ p (Nat.ne_of_lt hlt) its.toArray,
    ⟨⟨_, Heap.get?_push_size _ rfl, rfl, rfl⟩, hl.push _⟩, ?_, fun i v hP => ?_, fun h' tk t' hk => ?_⟩
  · intro b hb
    simp only [List.mem_cons, List.not_mem_nil, or_false] at hb
    show b < (s.heap.push _).objs.size
    rw [Heap.size_push]
    rcases hb with rfl | rfl
    · exact Nat.lt_succ_self _
    · exact Nat.lt_succ_of_lt hlt
  · obtain ⟨b, t, eb, rfl⟩ := vals_int rv (i := i) (v := v) (by simpa using hP)
    exact ⟨t, by show Value.int b t = Value.int ((ns[i]?).getD 0) t; rw [eb]; rfl⟩
  · have e : preSum (fun i => (ns[i]?).getD 0) its.toArray.size = ns.sum := by
      rw [List.size_toArray, ← hlen, preSum_take ns _ (Nat.le_refl _), List.take_length]
    rw [e]
    exact ⟨.int ns.sum, H, I.kept (t' := tk) fun b o eb => hk b o (fun z => by rw [List.mem_singleton.mp z] at eb; exact Nat.lt_irrefl _ (Heap.lt_size eb)) (Heap.get?_push_of_some _ eb), ⟨t', rfl⟩, q⟩
end
end L2


set_option linter.all false
set_option maxRecDepth 100000
set_option maxHeartbeats 4000000
namespace L2
open PySem PySem.Spec PyProof.Rows
section
open PySem.W
variable {K : PySem.W.Frag} {M : Model}
end

structure Lands (X : Cx) (pins : List (Addr × Obj)) (σ : St) (H : Hp) (e : Addr) (cls : Value) (s : Shared) : Prop where
  I : Inv X pins σ H s
  new : H e = none
  fly : ∃ (B : Heap) (a0 : Value), Heap.FlyingW B X.stack e cls a0 s.heap ∧ (∀ b u, H b = some u → ∃ o, B.get? b = some o) ∧ (∀ b o, X.s₀.heap.get? b = some o → b ∉ frs X.stack → b ∉ X.ex → ∃ o', B.get? b = some o') ∧ (∀ p ∈ X.pn ++ pins, ∃ o', B.get? p.1 = some o')
abbrev TH := Value → Ends → St → Hp → Prop
def PH (X : Cx) (hs : List ExceptHandler) (t : TH) : Prop := ∀ (pins : List (Addr × Obj)) (s : Shared) (σ : St) (H : Hp) (e : Addr) (cls : Value) (D : Ends), Lands X pins σ H e cls s → t cls D σ H →
  wpAny (model X.prog X.w) X.A (handleBy (.ref e) X.env hs) (SP X pins D) X.xe s

def tTryN (tb : Ends → (St → XK) → St → Hp → Prop) (th : TH) : TS := fun D σ H => tb D (fun σ' cls _ H' => th cls D σ' H') σ H
section
variable {X : Cx}

def tSkip (K : PySem.W.Frag) (cs : List Addr) (th : TH) : TH := fun cls D σ H => (∀ c ∈ cs, PySem.W.exmOne K cls (.ref c) = some false) ∧ th cls D σ H

def tHit0 (K : PySem.W.Frag) (C : Addr) (ts : TS) (th : TH) : TH := fun cls D σ H => (PySem.W.exmOne K cls (.ref C) = some true ∧ ts D σ H) ∨ (PySem.W.exmOne K cls (.ref C) = some false ∧ th cls D σ H)
def tHitAs (K : PySem.W.Frag) (C : Addr) (i : Nat) (ts : TS) (th : TH) : TH := fun cls D σ H => (PySem.W.exmOne K cls (.ref C) = some true ∧ ∀ e, H e = none →
  ts { nx := fun σ2 H2 => D.nx (σ2.set i none) H2, rt := D.rt, bk := fun σ2 H2 => D.bk (σ2.set i none) H2, ct := fun σ2 H2 => D.ct (σ2.set i none) H2 } (σ.set i (some (.ref e))) (upd H e (xO e cls))) ∨ (PySem.W.exmOne K cls (.ref C) = some false ∧ th cls D σ H)
theorem Lands.push {pins : List (Addr × Obj)} {s : Shared} {σ : St} {H : Hp} {e : Addr} {cls : Value} (L : Lands X pins σ H e cls s) (ob : Obj) : Lands X pins σ H e cls { s with heap := s.heap.push ob } := by
  obtain ⟨B, a0, fl, tr, old, pn⟩ := L.fly
  have k : ∀ b o, s.heap.get? b = some o → (s.heap.push ob).get? b = some o := fun b o e => Heap.get?_push_of_some _ e
  exact ⟨L.I.kept (t' := s.toks) k, L.new, B, a0, PySem.W.flying_keeps fl k, tr, old, pn⟩

end
end L2


set_option linter.all false
set_option maxRecDepth 100000
set_option maxHeartbeats 4000000
namespace L2
open PySem PySem.Spec PyProof.Rows
section
variable {X : Cx}

def gLst (K : PySem.W.Frag) (n : Nat) (t : TGs) : TG := fun v σ H Q => ∃ a xs, v = .ref a ∧ SqL K H a xs ∧ xs.length = n ∧ t xs σ H Q
end

theorem comp_fm {α : Type} {J : It} {item : Nat → V → Hp → Prop} {tc : TT} {te : TE} {Q : VK} {H : Hp} {l : Addr} {τ : St} {g : TG} (ds : List α) (f : α → Option V) (hJ : GivesG J ds.length H item) (hp : Plain H)
    (hl : H l = none) (hz : ds.length ≤ sizeLine) (keep : St → Prop) (hk0 : keep τ)
    (ht : ∀ (τ' : St) (k : Nat) (d : α) (x : V) (H' : Hp) (Q1 : St → VK) (Q2 : St → Hp → Prop), keep τ' → ds[k]? = some d → item k x H' → Same H H' → Plain H' → (∀ y τ4 H6, keep τ4 → Same H' H6 → Plain H6 → f d = some y → Q1 τ4 y H6) → (∀ τ4 H6, keep τ4 → Same H' H6 → Plain H6 → f d = none → Q2 τ4 H6) →
      g x τ' H' fun τ4 H4 => tc τ4 H4 fun b H5 => if b = true then te τ4 H5 (Q1 τ4) else Q2 τ4 H5)
    (hq : ∀ H', Same H H' → Plain H' → H' l = some (.lst (ds.filterMap f)) → Q (.ref l) H') : CompOk J g tc te Q l τ H := by
  refine comp_by ds.length (fun i ys τ' H2 => i ≤ ds.length ∧ ys = (ds.take i).filterMap f ∧ keep τ' ∧ Same H H2 ∧ Plain H2 ∧ H2 l = some (.lst ys)) ⟨Nat.zero_le _, rfl, hk0, Same.upd hl, hp.upd rfl, upd_same⟩ ?_ ?_
  · rintro i ys τ' H2 N hlt ⟨hi, rfl, hk, hs, hp2, hll⟩ hN
    obtain ⟨hgo, _⟩ := hJ i _ hs hp2
    obtain ⟨h1, h2⟩ := hgo hlt
    refine ⟨h1, fun x H3 hy => ?_⟩
    obtain ⟨s3, p3, it⟩ := h2 x H3 hy
    have e : ds[i]? = some ds[i] := List.getElem?_eq_getElem hlt
    have et : (ds.take (i + 1)).filterMap f = (ds.take i).filterMap f ++ (f ds[i]).toList := by
      rw [List.take_add_one, e, List.filterMap_append]
      have : (some ds[i]).toList.filterMap f = (f ds[i]).toList := by
        cases hf : f ds[i] with
        | none => simp [hf]
        | some y => simp [hf]
      rw [this]
    have hlen : ((ds.take i).filterMap f).length ≤ i := Nat.le_trans (List.length_filterMap_le ..) (by rw [List.length_take]; omega)
    refine ht τ' i ds[i] x H3 (fun τ4 y H6 => H6 l = some (.lst ((ds.take i).filterMap f)) ∧ ((ds.take i).filterMap f).length < sizeLine ∧ N ((ds.take i).filterMap f ++ [y]) τ4 (upd H6 l (.lst ((ds.take i).filterMap f ++ [y]))))
      (fun τ4 H5 => N ((ds.take i).filterMap f) τ4 H5) hk e it (hs.trans s3) p3 (fun y τ4 H6 k4 s6 p6 ef => ?_) fun τ4 H6 k4 s6 p6 ef => ?_
    · rw [ef] at et
      have hl6 : H6 l = some (.lst ((ds.take i).filterMap f)) := s6 _ _ (s3 _ _ hll)
      exact ⟨hl6, by omega, hN _ _ _ ⟨hlt, et.symm, k4, ((hs.trans s3).trans s6).put hl, p6.upd rfl, upd_same⟩⟩
    · rw [ef] at et
      have et : (ds.take (i + 1)).filterMap f = (ds.take i).filterMap f := by rw [et]; exact List.append_nil _
      exact hN _ _ _ ⟨hlt, et.symm, k4, (hs.trans s3).trans s6, p6, s6 _ _ (s3 _ _ hll)⟩
  · rintro ys τ' H2 ⟨_, rfl, _, hs, hp2, hll⟩
    rw [List.take_length] at hll
    exact ⟨(hJ ds.length _ hs hp2).2, hq _ hs hp2 hll⟩
end L2


set_option linter.all false
set_option maxRecDepth 100000
set_option maxHeartbeats 4000000
namespace L2
open PySem PySem.Spec PyProof.Rows
section
variable {X : Cx}

def SameD (kvs kvs' : List (Key × V)) : Prop := kvs.length = kvs'.length ∧ ∀ p ∈ kvs, ∃ i, p.2 = .int i ∧ valV kvs' p.1 = some (.int i)
end
end L2


set_option linter.all false
set_option maxRecDepth 100000
set_option maxHeartbeats 4000000
namespace FR
open PySem L2
def good (c : Nat) : Bool := decide (32 ≤ c) && decide (c ≤ 126) && !decide (c = 37)
def letter (c : Nat) : Bool := decide (65 ≤ c) && decide (c ≤ 90)
def isSignS (z : Str) : Bool := z.cps.size == 2 && z.cps[0]? == some 39 && good (z.cps.getD 1 0)
def isNameS (z : Str) : Bool := decide (1 ≤ z.cps.size) && decide (z.cps.size ≤ 8) && z.cps.toList.all letter
def isTextS (z : Str) : Bool := decide (z.cps.size ≤ 60) && z.cps.toList.all good
def isSignD : D → Bool
  | .str z => isSignS z
  | _ => false
def isNameD : D → Bool
  | .str z => isNameS z
  | _ => false
def isPartD (d : D) : Bool := isSignD d || isNameD d
def isTextD : D → Bool
  | .str z => isTextS z
  | _ => false
def isWholeD : D → Bool
  | .int _ => true
  | _ => false
def isWorthD : D → Bool
  | .int i => decide (0 ≤ i) && decide (i ≤ 10 ^ 60)
  | _ => false
def arePartsD : D → Bool
  | .tup ds => decide (ds.length ≤ 6) && ds.all isPartD
  | _ => false
def isRuleD : D → Bool
  | .tup [h, p, w] => isNameD h && (arePartsD p && isWorthD w)
  | _ => false
def isGramD : D → Bool
  | .lst ds => decide (ds.length ≤ 60) && ds.all isRuleD
  | _ => false
mutual
def _root_.L2.D.short : D → Bool
  | .str z => decide (z.length ≤ 1000)
  | .lst ds => shortS ds
  | .tup ds => shortS ds
  | _ => true
def shortS : List D → Bool
  | [] => true
  | d :: ds => d.short && shortS ds
end
theorem shortS_mem : ∀ {xs : List D} {d : D}, shortS xs = true → d ∈ xs → d.short = true
  | x :: xs, d, h, hd => by
    unfold shortS at h
    rw [Bool.and_eq_true] at h
    rcases List.mem_cons.mp hd with rfl | hd
    · exact h.1
    · exact shortS_mem h.2 hd
theorem shortS_of : ∀ {xs : List D}, (∀ d ∈ xs, d.short = true) → shortS xs = true
  | [], _ => by unfold shortS; rfl
  | x :: xs, h => by unfold shortS; rw [h x List.mem_cons_self, shortS_of fun d hd => h d (List.mem_cons_of_mem _ hd)]; rfl
theorem short_str {z : Str} (h : z.length ≤ 1000) : (D.str z).short = true := by unfold D.short; exact decide_eq_true h
theorem short_len {z : Str} (h : (D.str z).short = true) : z.length ≤ 1000 := by unfold D.short at h; exact of_decide_eq_true h
theorem line1000 {n : Nat} (h : n ≤ 1000) : n ≤ sizeLine := Nat.le_trans h (by rw [sizeLine_eq]; decide)
theorem short_line {z : Str} (h : (D.str z).short = true) : z.length ≤ sizeLine := line1000 (short_len h)
def isStrD : D → Bool | .str _ => true | _ => false
def isListD : D → Bool | .lst _ => true | _ => false
def isTupD : D → Bool | .tup _ => true | _ => false
def isBoolD : D → Bool | .bl _ => true | _ => false
def isIntD : D → Bool | .int _ => true | .bl _ => true | _ => false
section
variable {K : PySem.W.Frag}
theorem kit_int (d : D) : PySem.W.kitOne K (.type (tyD d)) (.type "int") = some (isIntD d) := by cases d <;> kernel_rfl
theorem kit_bool (d : D) : PySem.W.kitOne K (.type (tyD d)) (.type "bool") = some (isBoolD d) := by cases d <;> kernel_rfl
theorem kit_str (d : D) : PySem.W.kitOne K (.type (tyD d)) (.type "str") = some (isStrD d) := by cases d <;> kernel_rfl
theorem kit_list (d : D) : PySem.W.kitOne K (.type (tyD d)) (.type "list") = some (isListD d) := by cases d <;> kernel_rfl
theorem kit_tuple (d : D) : PySem.W.kitOne K (.type (tyD d)) (.type "tuple") = some (isTupD d) := by cases d <;> kernel_rfl
end
theorem size_len (z : Str) : z.length = z.cps.size := rfl
theorem le_A (c : Nat) : (!decide (([c] : List Nat) < (("A" : Str)).cps.toList)) = decide (65 ≤ c) := by
  have e : (("A" : Str)).cps.toList = [65] := by decide +kernel
  rw [e]
  by_cases h : 65 ≤ c
  · rw [decide_eq_true h, decide_eq_false (by rw [List.cons_lt_cons_iff]; simp; omega)]; rfl
  · rw [decide_eq_false h, decide_eq_true (by rw [List.cons_lt_cons_iff]; left; omega)]; rfl
theorem le_Z (c : Nat) : (!decide ((("Z" : Str)).cps.toList < ([c] : List Nat))) = decide (c ≤ 90) := by
  have e : (("Z" : Str)).cps.toList = [90] := by decide +kernel
  rw [e]
  by_cases h : c ≤ 90
  · rw [decide_eq_true h, decide_eq_false (by rw [List.cons_lt_cons_iff]; simp; omega)]; rfl
  · rw [decide_eq_false h, decide_eq_true (by rw [List.cons_lt_cons_iff]; left; omega)]; rfl
theorem map_bl (g : Nat → Bool) (l : List Nat) : l.map (fun c => V.bl (g c)) = (l.map g).map V.bl := by rw [List.map_map]; rfl
theorem all_map_id {α : Type} (g : α → Bool) (l : List α) : (l.map g).all id = l.all g := by rw [List.all_map]; rfl

theorem bls_of {ys : List V} {ds : List D} {g : D → Bool} (hl : ys.length = ds.length) (h : ∀ (k : Nat) (y : V), ys[k]? = some y → ∃ d, ds[k]? = some d ∧ y = .bl (g d)) : ys = (ds.map g).map V.bl := by
  refine List.ext_getElem? fun k => ?_
  by_cases hk : k < ys.length
  · obtain ⟨d, hd, hy⟩ := h k ys[k] (List.getElem?_eq_getElem hk)
    rw [List.getElem?_eq_getElem hk, List.getElem?_map, List.getElem?_map, hd, hy]
    rfl
  · rw [List.getElem?_eq_none (by omega), List.getElem?_eq_none (by rw [List.length_map, List.length_map]; omega)]
theorem and_read {te : TE} {σ : St} {H : Hp} {R : VK} {b g : Bool} (ht : b = true → ∀ R : VK, R (.bl g) H → te σ H R) (h : R (.bl (b && g)) H) : if b = true then te σ H R else R (.bl false) H := by
  cases b with
  | true => exact ht rfl R h
  | false => exact h
theorem or_read {te : TE} {σ : St} {H : Hp} {R : VK} {b g : Bool} (ht : b = false → ∀ R : VK, R (.bl g) H → te σ H R) (h : R (.bl (b || g)) H) : if b = true then R (.bl true) H else te σ H R := by
  cases b with
  | true => exact h
  | false => exact ht rfl R h
def spIs (g : D → Bool) : Sp := fun vs H Q _ => ∃ x d, vs = [x] ∧ Den H x d ∧ d.short = true ∧ Plain H ∧ Q (.bl (g d)) H
def spStands : Sp := fun vs H Q _ => ∃ c, vs = [.str ⟨#[c]⟩] ∧ Q (.bl (good c)) H
def spChecked (C : Addr) : Sp := fun vs H Q E => ∃ x d, vs = [x] ∧ Den H x d ∧ d.short = true ∧ Plain H ∧
  (isGramD d = true → ∀ (l : Addr) (xs : List V) (ds : List D), d = .lst ds → Dens H xs ds → H l = none → Q (.ref l) (upd H l (.lst xs))) ∧ (isGramD d = false → E (.ref C) none H)
theorem bool_false {b : Bool} (h : (!b) = true) : b = false := by cases b <;> first | rfl | cases h
theorem bool_true {b : Bool} (h : ¬ (!b) = true) : b = true := by cases b <;> first | rfl | exact absurd rfl h
def spCheckedT (C : Addr) : Sp := fun vs H Q E => ∃ x d, vs = [x] ∧ Den H x d ∧ d.short = true ∧ Plain H ∧ (∀ z, d = .str z → isTextS z = true → Q (.str z) H) ∧ (isTextD d = false → E (.ref C) none H)
end FR


set_option linter.all false
set_option maxRecDepth 100000
set_option maxHeartbeats 4000000
namespace FR
open PySem L2
abbrev Rule := Str × List Str × Int
abbrev Gram := List Rule
def ruleD (r : Rule) : D := .tup [.str r.1, .tup (r.2.1.map D.str), .int r.2.2]
def gramD (g : Gram) : D := .lst (g.map ruleD)
def isPartS (z : Str) : Bool := isSignS z || isNameS z
def okRule (r : Rule) : Bool := isNameS r.1 && ((decide (r.2.1.length ≤ 6) && r.2.1.all isPartS) && (decide (0 ≤ r.2.2) && decide (r.2.2 ≤ 10 ^ 60)))
def okGram (g : Gram) : Bool := decide (g.length ≤ 60) && g.all okRule
theorem isRuleD_ruleD (r : Rule) : isRuleD (ruleD r) = okRule r := by
  obtain ⟨h, ps, w⟩ := r
  show (isNameD (.str h) && (arePartsD (.tup (ps.map D.str)) && isWorthD (.int w))) = _
  show (isNameS h && ((decide ((ps.map D.str).length ≤ 6) && (ps.map D.str).all isPartD) && (decide (0 ≤ w) && decide (w ≤ 10 ^ 60)))) = _
  rw [List.length_map, List.all_map]
  rfl
theorem isGramD_gramD (g : Gram) : isGramD (gramD g) = okGram g := by
  show (decide ((g.map ruleD).length ≤ 60) && (g.map ruleD).all isRuleD) = _
  rw [List.length_map, List.all_map]
  unfold okGram
  congr 1
  congr 1
  funext r
  exact isRuleD_ruleD r
theorem strs_of : ∀ {ds : List D}, ds.all isPartD = true → ∃ ps : List Str, ds = ps.map D.str
  | [], _ => ⟨[], rfl⟩
  | d :: ds, h => by
    rw [List.all_cons, Bool.and_eq_true] at h
    obtain ⟨ps, rfl⟩ := strs_of h.2
    cases d with
    | str z => exact ⟨z :: ps, rfl⟩
    | _ => cases h.1
theorem rule_of {d : D} (h : isRuleD d = true) : ∃ r : Rule, d = ruleD r := by
  unfold isRuleD at h
  split at h
  · rename_i a b c
    rw [Bool.and_eq_true, Bool.and_eq_true] at h
    obtain ⟨h1, h2, h3⟩ := h
    cases a with
    | str z =>
      cases b with
      | tup ds =>
        cases c with
        | int w =>
          unfold arePartsD at h2
          rw [Bool.and_eq_true] at h2
          obtain ⟨ps, rfl⟩ := strs_of h2.2
          exact ⟨(z, ps, w), rfl⟩
        | _ => cases h3
      | _ => cases h2
    | _ => cases h1
  · cases h
theorem gram_of {d : D} (h : isGramD d = true) : ∃ g : Gram, d = gramD g ∧ okGram g = true := by
  cases d with
  | lst ds =>
    have h0 := h
    unfold isGramD at h
    rw [Bool.and_eq_true] at h
    have go : ∀ (ds : List D), ds.all isRuleD = true → ∃ g : Gram, ds = g.map ruleD := by
      intro ds
      induction ds with
      | nil => exact fun _ => ⟨[], rfl⟩
      | cons d ds ih =>
        intro hd
        rw [List.all_cons, Bool.and_eq_true] at hd
        obtain ⟨g, rfl⟩ := ih hd.2
        obtain ⟨r, rfl⟩ := rule_of hd.1
        exact ⟨r :: g, rfl⟩
    obtain ⟨g, rfl⟩ := go ds h.2
    refine ⟨g, rfl, ?_⟩
    rw [← isGramD_gramD]
    exact h0
  | _ => cases h
theorem den_rule {H : Hp} {v : V} {r : Rule} (h : Den H v (ruleD r)) : ∃ t p, v = .ref t ∧ H t = some (.tup [.str r.1, .ref p, .int r.2.2]) ∧ H p = some (.tup (r.2.1.map V.str)) := by
  obtain ⟨t, xs, rfl, ht, hds⟩ := h.to_tup
  match xs, hds with
  | [x0, x1, x2], hds =>
    obtain ⟨_, e0, n0⟩ := hds.get (i := 0) (v := x0) rfl
    obtain ⟨_, e1, n1⟩ := hds.get (i := 1) (v := x1) rfl
    obtain ⟨_, e2, n2⟩ := hds.get (i := 2) (v := x2) rfl
    cases e0
    cases e1
    cases e2
    have f0 := n0.to_str
    have f2 := n2.to_int
    obtain ⟨p, ys, f1, hp, hys⟩ := n1.to_tup
    subst f0 f1 f2
    refine ⟨t, p, rfl, ht, ?_⟩
    have : ys = r.2.1.map V.str := by
      refine List.ext_getElem? fun i => ?_
      cases e : ys[i]? with
      | none =>
        have h1 := List.getElem?_eq_none_iff.mp e
        have h2 := hys.len
        rw [List.length_map] at h2
        rw [List.getElem?_eq_none (by rw [List.length_map]; omega)]
      | some y =>
        obtain ⟨d, hd, dn⟩ := hys.get e
        rw [List.getElem?_map] at hd ⊢
        cases e2 : r.2.1[i]? with
        | none => rw [e2] at hd; cases hd
        | some z =>
          rw [e2] at hd
          cases hd
          rw [dn.to_str]
          rfl
    rw [hp, this]
  | [], h => exact absurd h.len (by simp)
  | [_], h => exact absurd h.len (by simp)
  | [_, _], h => exact absurd h.len (by simp)
  | _ :: _ :: _ :: _ :: _, h => exact absurd h.len (by simp)
theorem den_gram {H : Hp} {v : V} {g : Gram} (h : Den H v (gramD g)) : ∃ a xs, v = .ref a ∧ Rd H a (.lst xs) ∧ Dens H xs (g.map ruleD) := h.to_lst

theorem rule_at {H : Hp} {xs : List V} {g : Gram} (h : Dens H xs (g.map ruleD)) {i : Nat} {v : V} (e : xs[i]? = some v) :
    ∃ r t p, g[i]? = some r ∧ v = .ref t ∧ H t = some (.tup [.str r.1, .ref p, .int r.2.2]) ∧ H p = some (.tup (r.2.1.map V.str)) := by
  obtain ⟨d, hd, dn⟩ := h.get e
  rw [List.getElem?_map] at hd
  cases e2 : g[i]? with
  | none => rw [e2] at hd; cases hd
  | some r =>
    rw [e2] at hd
    cases hd
    obtain ⟨t, p, e3, e4, e5⟩ := den_rule dn
    exact ⟨r, t, p, rfl, e3, e4, e5⟩
def startV : Gram → V
  | [] => .non
  | r :: _ => .str r.1
def hstep (hs : List Str) (h : Str) : List Str := if h ∈ hs then hs else hs ++ [h]
def headsOf (g : Gram) : List Str := (g.map (·.1)).foldl hstep []
def rulesOf (g : Gram) (z : Str) : List Nat := (List.range g.length).filter fun k => decide ((g[k]?.map (·.1)) = some z)
def spStart (C : Addr) : Sp := fun vs H Q E => ∃ x d, vs = [x] ∧ Den H x d ∧ d.short = true ∧ Plain H ∧
  (∀ g, d = gramD g → okGram g = true → ∀ H', Same H H' → Plain H' → Q (startV g) H') ∧ (isGramD d = false → ∀ H', Same H H' → Plain H' → E (.ref C) none H')
def spHeads (C : Addr) : Sp := fun vs H Q E => ∃ x d, vs = [x] ∧ Den H x d ∧ d.short = true ∧ Plain H ∧
  (∀ g, d = gramD g → okGram g = true → ∀ l H', Same H H' → Plain H' → H l = none → H' l = some (.lst ((headsOf g).map V.str)) → Q (.ref l) H') ∧ (isGramD d = false → ∀ H', Same H H' → Plain H' → E (.ref C) none H')
def spRulesOf (C : Addr) : Sp := fun vs H Q E => ∃ x d z, vs = [x, .str z] ∧ Den H x d ∧ d.short = true ∧ Plain H ∧
  (∀ g, d = gramD g → okGram g = true → ∀ l H', Same H H' → Plain H' → H l = none → H' l = some (.lst ((rulesOf g z).map fun (k : Nat) => .int (k : Int))) → Q (.ref l) H') ∧ (isGramD d = false → ∀ H', Same H H' → Plain H' → E (.ref C) none H')

def hdict (hs : List Str) : List (Key × V) := hs.map fun h => (Sum.inr h, .bl true)
end FR


set_option linter.all false
set_option maxRecDepth 100000
set_option maxHeartbeats 4000000
namespace FR
open PySem L2
theorem depS_bound : ∀ {xs : List D} {n : Nat}, (∀ d ∈ xs, d.dep ≤ n) → depS xs ≤ n
  | [], n, _ => by unfold depS; exact Nat.zero_le _
  | x :: xs, n, h => by
    unfold depS
    exact Nat.max_le.mpr ⟨h x List.mem_cons_self, depS_bound fun d hd => h d (List.mem_cons_of_mem _ hd)⟩
theorem ok_lst {xs : List D} (h : ∀ d ∈ xs, d.ok = true) : (D.lst xs).ok = true := by unfold D.ok; exact okS_of h
theorem ok_tup {xs : List D} (h : ∀ d ∈ xs, d.ok = true) : (D.tup xs).ok = true := by unfold D.ok; exact okS_of h
theorem ok_str (z : Str) : (D.str z).ok = true := by unfold D.ok; rfl
theorem ok_int (z : Int) : (D.int z).ok = true := by unfold D.ok; rfl
theorem dep_lst {xs : List D} {n : Nat} (h : ∀ d ∈ xs, d.dep ≤ n) : (D.lst xs).dep ≤ n + 1 := by unfold D.dep; exact Nat.succ_le_succ (depS_bound h)
theorem dep_tup {xs : List D} {n : Nat} (h : ∀ d ∈ xs, d.dep ≤ n) : (D.tup xs).dep ≤ n + 1 := by unfold D.dep; exact Nat.succ_le_succ (depS_bound h)
theorem dep_str (z : Str) : (D.str z).dep = 0 := by unfold D.dep; rfl
theorem dep_int (z : Int) : (D.int z).dep = 0 := by unfold D.dep; rfl
theorem ok_strs (zs : List Str) : (D.lst (zs.map D.str)).ok = true := ok_lst fun d hd => by
  obtain ⟨z, _, rfl⟩ := List.mem_map.mp hd
  exact ok_str z
theorem ok_ints (zs : List Int) : (D.lst (zs.map D.int)).ok = true := ok_lst fun d hd => by
  obtain ⟨z, _, rfl⟩ := List.mem_map.mp hd
  exact ok_int z
theorem dep_strs (zs : List Str) : (D.lst (zs.map D.str)).dep ≤ 64 := Nat.le_trans (dep_lst (n := 0) fun d hd => by
  obtain ⟨z, _, rfl⟩ := List.mem_map.mp hd
  rw [dep_str]; exact Nat.le_refl _) (by decide)
theorem dep_ints (zs : List Int) : (D.lst (zs.map D.int)).dep ≤ 64 := Nat.le_trans (dep_lst (n := 0) fun d hd => by
  obtain ⟨z, _, rfl⟩ := List.mem_map.mp hd
  rw [dep_int]; exact Nat.le_refl _) (by decide)
theorem ok_rule (r : Rule) : (ruleD r).ok = true := by
  refine ok_tup fun d hd => ?_
  simp only [List.mem_cons, List.not_mem_nil, or_false] at hd
  rcases hd with rfl | rfl | rfl
  · exact ok_str _
  · refine ok_tup fun d hd => ?_
    obtain ⟨z, _, rfl⟩ := List.mem_map.mp hd
    exact ok_str z
  · exact ok_int _
theorem dep_rule (r : Rule) : (ruleD r).dep ≤ 2 := by
  refine dep_tup (n := 1) fun d hd => ?_
  simp only [List.mem_cons, List.not_mem_nil, or_false] at hd
  rcases hd with rfl | rfl | rfl
  · rw [dep_str]; decide
  · refine dep_tup (n := 0) fun d hd => ?_
    obtain ⟨z, _, rfl⟩ := List.mem_map.mp hd
    rw [dep_str]; exact Nat.le_refl _
  · rw [dep_int]; decide
theorem ok_gram (g : Gram) : (gramD g).ok = true := ok_lst fun d hd => by
  obtain ⟨r, _, rfl⟩ := List.mem_map.mp hd
  exact ok_rule r
theorem dep_gram (g : Gram) : (gramD g).dep ≤ 64 := Nat.le_trans (dep_lst (n := 2) fun d hd => by
  obtain ⟨r, _, rfl⟩ := List.mem_map.mp hd
  exact dep_rule r) (by decide)
theorem name_len8 {z : Str} (h : isNameS z = true) : z.length ≤ 8 := by
  unfold isNameS at h
  rw [Bool.and_eq_true, Bool.and_eq_true] at h
  exact of_decide_eq_true h.1.2
theorem part_len {z : Str} (h : isPartS z = true) : z.length ≤ 8 := by
  unfold isPartS at h
  rw [Bool.or_eq_true] at h
  rcases h with h | h
  · unfold isSignS at h
    rw [Bool.and_eq_true, Bool.and_eq_true, beq_iff_eq] at h
    show z.cps.size ≤ 8
    omega
  · exact name_len8 h
theorem short_rule {r : Rule} (h : okRule r = true) : (ruleD r).short = true := by
  unfold okRule at h
  simp only [Bool.and_eq_true] at h
  obtain ⟨h1, ⟨h2, h3⟩, h4⟩ := h
  unfold ruleD D.short
  refine shortS_of fun d hd => ?_
  simp only [List.mem_cons, List.not_mem_nil, or_false] at hd
  rcases hd with rfl | rfl | rfl
  · exact short_str (Nat.le_trans (name_len8 h1) (by decide))
  · unfold D.short
    refine shortS_of fun d hd => ?_
    obtain ⟨z, hz, rfl⟩ := List.mem_map.mp hd
    exact short_str (Nat.le_trans (part_len (List.all_eq_true.mp h3 z hz)) (by decide))
  · unfold D.short; rfl
theorem short_gram {g : Gram} (h : okGram g = true) : (gramD g).short = true := by
  unfold okGram at h
  rw [Bool.and_eq_true] at h
  unfold gramD D.short
  refine shortS_of fun d hd => ?_
  obtain ⟨r, hr, rfl⟩ := List.mem_map.mp hd
  exact short_rule (List.all_eq_true.mp h.2 r hr)
theorem gram_60 {g : Gram} (h : okGram g = true) : g.length ≤ 60 := by
  unfold okGram at h
  rw [Bool.and_eq_true] at h
  exact of_decide_eq_true h.1
theorem str_inj : ∀ {a b : List Str}, a.map D.str = b.map D.str → a = b
  | [], [], _ => rfl
  | [], _ :: _, h => by cases h
  | _ :: _, [], h => by cases h
  | x :: a, y :: b, h => by
    rw [List.map_cons, List.map_cons] at h
    injection h with h1 h2
    injection h1 with h3
    rw [h3, str_inj h2]
theorem ruleD_inj {r r' : Rule} (h : ruleD r = ruleD r') : r = r' := by
  obtain ⟨a, b, c⟩ := r
  obtain ⟨a', b', c'⟩ := r'
  unfold ruleD at h
  injection h with h
  injection h with h1 h2
  injection h2 with h2 h3
  injection h3 with h3 _
  injection h1 with h1
  injection h2 with h2
  injection h3 with h3
  have h1' : a = a' := h1
  have h3' : c = c' := h3
  have h2' : b = b' := str_inj h2
  rw [h1', h2', h3']
theorem gramD_inj {g g' : Gram} (h : gramD g = gramD g') : g = g' := by
  unfold gramD at h
  injection h with h
  induction g generalizing g' with
  | nil =>
    cases g' with
    | nil => rfl
    | cons _ _ => cases h
  | cons r g ih =>
    cases g' with
    | nil => cases h
    | cons r' g' =>
      rw [List.map_cons, List.map_cons] at h
      injection h with h1 h2
      rw [ruleD_inj h1, ih h2]
def oV : Option Int → V
  | none => .non
  | some i => .int i
end FR


set_option linter.all false
set_option maxRecDepth 100000
set_option maxHeartbeats 4000000
namespace FR
open PySem L2
def spCell (K : PySem.W.Frag) : Sp := fun vs H Q _ => ∃ (a : Addr) (ns : List Int) (k : Int), vs = [.ref a, .int k] ∧ SqL K H a (ns.map V.int) ∧ 0 ≤ k ∧ ∀ v : Int, Q (.int v) H
def spLaw (K : PySem.W.Frag) : Sp := fun vs H Q _ => ∃ (a : Addr) (ns : List Int), vs = [.ref a] ∧ SqL K H a (ns.map V.int) ∧ ns.length ≤ 63 ∧ Plain H ∧ ∀ H', Q (.bl true) H'
theorem law_start {K : PySem.W.Frag} {H : Hp} {a : Addr} {ns : List Int} (hl : ns.length ≤ 63) (hO : Only H) (hS : SqL K H a (ns.map V.int)) : spLaw K [.ref a] H (fun v _ => v = .bl true) fun _ _ _ => False :=
  ⟨a, ns, rfl, hS, hl, only_plain hO, fun _ => rfl⟩
def nameL (l : List Nat) : Bool := decide (1 ≤ l.length) && decide (l.length ≤ 8) && l.all letter
theorem isName_list (z : Str) : isNameS z = nameL z.cps.toList := by
  unfold isNameS nameL
  rw [Array.length_toList]
def BIG : Str := "ABCDEFGHIJKLMNOPQRSTUVWXYZ"
theorem big_list : BIG.cps.toList = (List.range 26).map (65 + ·) := by decide +kernel
theorem big_len : BIG.cps.toList.length = 26 := by decide +kernel
theorem big_line : BIG.length ≤ sizeLine := line1000 (by decide +kernel)
theorem big_letter {c : Nat} (h : c ∈ BIG.cps.toList) : letter c = true := by
  rw [big_list] at h
  obtain ⟨k, hk, rfl⟩ := List.mem_map.mp h
  have := List.mem_range.mp hk
  unfold letter
  rw [decide_eq_true (by omega), decide_eq_true (by omega)]
  rfl
theorem app_list (a b : Str) : (a ++ b).cps.toList = a.cps.toList ++ b.cps.toList := by
  show (a.cps ++ b.cps).toList = _
  exact Array.toList_append
def strOf : Expr → Str
  | .Constant (.str x) _ _ => x
  | .BinOp _ _ b _ => strOf b
  | _ => ⟨#[]⟩
def valOf : Stmt → Str
  | .Assign _ v _ => strOf v
  | .Return (some v) _ => strOf v
  | _ => ⟨#[]⟩
def halfOf (s : Stmt) (i : Nat) : Str := valOf ((defBody s).getD i (.Pass ⟨0, 0, 0, 0⟩))
def goodCodes : List Nat := (List.range 95).filterMap fun k => if k = 5 then none else some (32 + k)
theorem codes_good {c : Nat} (h : c ∈ goodCodes) : good c = true := by
  obtain ⟨k, hk, e⟩ := List.mem_filterMap.mp h
  have := List.mem_range.mp hk
  unfold good
  split at e
  · cases e
  · cases e
    rw [decide_eq_true (by omega), decide_eq_true (by omega), decide_eq_false (by omega)]
    rfl
theorem codes_len : goodCodes.length = 94 := by decide +kernel
theorem q_list : (("'" : Str)).cps.toList = [39] := by decide +kernel
theorem sign_cps (c : Nat) : (("'" : Str) ++ ⟨#[c]⟩).cps = #[39, c] := by
  apply Array.ext'
  rw [app_list, q_list]
  rfl
theorem sign_sign {c : Nat} (h : good c = true) : isSignS (("'" : Str) ++ ⟨#[c]⟩) = true := by
  unfold isSignS
  rw [sign_cps]
  show (true && good c) = true
  rw [h]
  rfl
theorem sign_part {c : Nat} (h : good c = true) : isPartS (("'" : Str) ++ ⟨#[c]⟩) = true := by
  unfold isPartS
  rw [sign_sign h]
  rfl
theorem okRule_of {r : Rule} (h1 : isNameS r.1 = true) (h2 : r.2.1.length ≤ 6) (h3 : ∀ z ∈ r.2.1, isPartS z = true) (h4 : 0 ≤ r.2.2) (h5 : r.2.2 ≤ 10 ^ 60) : okRule r = true := by
  unfold okRule
  have a : r.2.1.all isPartS = true := List.all_eq_true.mpr h3
  rw [h1, decide_eq_true h2, a, decide_eq_true h4, decide_eq_true h5]
  rfl
theorem strs_items {ys : List V} {P : Str → Prop} (h : ∀ (k : Nat) (y : V), ys[k]? = some y → ∃ z, y = .str z ∧ P z) : ∃ zs : List Str, ys = zs.map V.str ∧ ∀ z ∈ zs, P z := by
  induction ys with
  | nil => exact ⟨[], rfl, by simp⟩
  | cons y ys ih =>
    obtain ⟨zs, rfl, hz⟩ := ih fun k y e => h (k + 1) y (by simpa using e)
    obtain ⟨z, rfl, pz⟩ := h 0 y rfl
    exact ⟨z :: zs, rfl, fun x hx => (List.mem_cons.mp hx).elim (fun e => by rw [e]; exact pz) (hz x)⟩
theorem slice_to {x : Str} {j : Int} (h0 : 0 ≤ j) (h1 : j ≤ x.length) : (Txt.slice x none (some j)).cps.toList = x.cps.toList.take j.toNat := by
  have h := PyProof.Rows.slice_closes_to (x := x) (j := j) ⟨h0, by rw [Array.length_toList]; exact h1⟩
  have e := eq_of_beq h
  rw [e]
  show ((x.cps.toList.drop (0 : Int).toNat).take (j - 0).toNat) = _
  rw [Int.sub_zero]
  rfl
theorem slice_from {x : Str} {i : Int} (h0 : 0 ≤ i) (h1 : i ≤ x.length) : (Txt.slice x (some i) none).cps.toList = x.cps.toList.drop i.toNat := by
  have e := PyProof.Rows.slice_from_eq (x := x) (i := i) (b := x.length) h0 h1 rfl
  rw [e]
  show ((x.cps.toList.drop i.toNat).take ((x.length : Int) - i).toNat) = _
  refine List.take_of_length_le ?_
  rw [List.length_drop, Array.length_toList]
  have : x.length = x.cps.size := rfl
  omega
end FR


set_option linter.all false
set_option maxRecDepth 100000
set_option maxHeartbeats 4000000
namespace FR
open PySem L2
abbrev Sz := List (Str × Int)
def szD (s : Sz) : List (Key × V) := s.map fun p => (Sum.inr p.1, .int p.2)
def look (s : Sz) (z : Str) : Option Int := (s.find? fun p => decide (p.1 = z)).map (·.2)
def putS : Sz → Str → Int → Sz
  | [], z, n => [(z, n)]
  | p :: s, z, n => if p.1 = z then (z, n) :: s else p :: putS s z n
theorem look_cons (p : Str × Int) (s : Sz) (z : Str) : look (p :: s) z = if p.1 = z then some p.2 else look s z := by
  unfold look
  rw [List.find?_cons]
  by_cases h : p.1 = z
  · rw [decide_eq_true h, if_pos h]; rfl
  · rw [decide_eq_false h, if_neg h]
theorem look_put (s : Sz) (z y : Str) (n : Int) : look (putS s z n) y = if y = z then some n else look s y := by
  induction s with
  | nil =>
    show look [(z, n)] y = _
    rw [look_cons]
    by_cases h : y = z
    · rw [if_pos h, if_pos h.symm]
    · rw [if_neg h, if_neg (fun e => h e.symm)]
  | cons p s ih =>
    unfold putS
    by_cases hp : p.1 = z
    · rw [if_pos hp, look_cons, look_cons]
      by_cases h : y = z
      · rw [if_pos h, if_pos h.symm]
      · rw [if_neg h, if_neg (fun e => h e.symm), if_neg (fun e => h (e.symm.trans hp))]
    · rw [if_neg hp, look_cons, look_cons, ih]
      by_cases h : y = z
      · rw [if_pos h, if_neg (fun e => hp (e.trans h))]
        rw [if_pos h]
      · rw [if_neg h]
        simp only [if_neg h]
theorem look_mem {s : Sz} {z : Str} {n : Int} (h : look s z = some n) : (z, n) ∈ s := by
  unfold look at h
  cases e : s.find? fun p => decide (p.1 = z) with
  | none => rw [e] at h; cases h
  | some p =>
    rw [e] at h
    have h1 := List.find?_some e
    have h2 : p.1 = z := of_decide_eq_true h1
    have h3 : p.2 = n := Option.some.inj h
    have := List.mem_of_find?_eq_some e
    rw [← h2, ← h3]
    exact this
theorem look_none {s : Sz} {z : Str} (h : look s z = none) : ¬ z ∈ s.map (·.1) := by
  intro m
  obtain ⟨p, hp, e⟩ := List.mem_map.mp m
  unfold look at h
  cases e2 : s.find? fun p => decide (p.1 = z) with
  | some q => rw [e2] at h; cases h
  | none =>
    have := List.find?_eq_none.mp e2 p hp
    exact this (decide_eq_true e)
theorem look_of {s : Sz} (nd : (s.map (·.1)).Nodup) {z : Str} {n : Int} (h : (z, n) ∈ s) : look s z = some n := by
  induction s with
  | nil => cases h
  | cons p s ih =>
    rw [List.map_cons, List.nodup_cons] at nd
    rw [look_cons]
    rcases List.mem_cons.mp h with e | h
    · rw [← e, if_pos rfl]
    · rw [if_neg, ih nd.2 h]
      intro e
      exact nd.1 (e ▸ List.mem_map.mpr ⟨_, h, rfl⟩)
theorem put_keys (s : Sz) (z : Str) (n : Int) : (putS s z n).map (·.1) = if z ∈ s.map (·.1) then s.map (·.1) else s.map (·.1) ++ [z] := by
  induction s with
  | nil => rfl
  | cons p s ih =>
    unfold putS
    by_cases h : p.1 = z
    · rw [if_pos h, if_pos (by rw [List.map_cons, h]; exact List.mem_cons_self ..), List.map_cons, List.map_cons, h]
    · rw [if_neg h, List.map_cons, ih, List.map_cons]
      by_cases m : z ∈ s.map (·.1)
      · rw [if_pos m, if_pos (List.mem_cons_of_mem _ m)]
      · rw [if_neg m, if_neg (fun e => (List.mem_cons.mp e).elim (fun e => h e.symm) m)]
        rfl
theorem valV_szD (z : Str) : ∀ s : Sz, valV (szD s) (Sum.inr z) = (look s z).map V.int
  | [] => rfl
  | p :: s => by
    show valV ((Sum.inr p.1, V.int p.2) :: szD s) (Sum.inr z) = _
    rw [look_cons]
    by_cases e : p.1 = z
    · rw [valV_pos (by rw [e]), if_pos e]; rfl
    · rw [valV_neg (fun h => e (Sum.inr.inj h)), valV_szD z s, if_neg e]
theorem put_szD {s : Sz} (nd : (s.map (·.1)).Nodup) (z : Str) (n : Int) : putK (szD s) (Sum.inr z) (.int n) = szD (putS s z n) := by
  induction s with
  | nil => rfl
  | cons p s ih =>
    rw [List.map_cons, List.nodup_cons] at nd
    unfold putS
    by_cases e : p.1 = z
    · rw [if_pos e]
      have : valV (szD (p :: s)) (Sum.inr z) = some (.int p.2) := by
        show valV ((Sum.inr p.1, V.int p.2) :: szD s) (Sum.inr z) = _
        rw [valV_pos (by rw [e])]
      unfold putK
      rw [valV_any, this, if_pos (show (some (V.int p.snd)).isSome = true from rfl)]
      show ((Sum.inr p.1, V.int p.2) :: szD s).map _ = (Sum.inr z, V.int n) :: szD s
      rw [List.map_cons]
      congr 1
      · show (if (Sum.inr p.1 : Key) = Sum.inr z then _ else _) = _
        rw [if_pos (by rw [e]), e]
      · refine (List.map_congr_left fun q hq => ?_).trans (List.map_id _)
        obtain ⟨r, hr, rfl⟩ := List.mem_map.mp hq
        show (if (Sum.inr r.1 : Key) = Sum.inr z then _ else _) = _
        rw [if_neg]
        · rfl
        · intro h
          exact nd.1 (by rw [e, ← Sum.inr.inj h]; exact List.mem_map.mpr ⟨r, hr, rfl⟩)
    · rw [if_neg e]
      have ih := ih nd.2
      show putK ((Sum.inr p.1, V.int p.2) :: szD s) (Sum.inr z) (.int n) = (Sum.inr p.1, V.int p.2) :: szD (putS s z n)
      rw [← ih]
      unfold putK
      have e1 : (((Sum.inr p.1, V.int p.2) :: szD s).any fun kv => decide (kv.1 = (Sum.inr z : Key))) = (szD s).any fun kv => decide (kv.1 = (Sum.inr z : Key)) := by
        rw [List.any_cons, decide_eq_false (fun h => e (Sum.inr.inj h))]
        rfl
      rw [e1]
      split
      · rw [List.map_cons]
        congr 1
        show (if (Sum.inr p.1 : Key) = Sum.inr z then _ else _) = _
        rw [if_neg (fun h => e (Sum.inr.inj h))]
      · rfl
def isQ (p : Str) : Bool := Txt.startswith p "'"
def sizeP (s : Sz) (q : Int) (p : Str) : Option Int := if isQ p = true then some q else look s p
def sizeG (s : Sz) (q : Int) : List Str → Int → Option Int
  | [], acc => some acc
  | p :: ps, acc => match sizeP s q p with
    | none => none
    | some m => sizeG s q ps (acc + m)
def sizeR (s : Sz) (q : Int) (ps : List Str) : Option Int := sizeG s q ps 1

def LeS (s' s : Sz) : Prop := ∀ z v, look s z = some v → ∃ v', look s' z = some v' ∧ v' ≤ v
theorem sizeG_mono {s s' : Sz} {q : Int} (h : LeS s' s) : ∀ {ps : List Str} {a a' k : Int}, a' ≤ a → sizeG s q ps a = some k → ∃ k', sizeG s' q ps a' = some k' ∧ k' ≤ k
  | [], a, a', k, ha, e => by
    unfold sizeG at e ⊢
    cases e
    exact ⟨_, rfl, ha⟩
  | p :: ps, a, a', k, ha, e => by
    unfold sizeG at e ⊢
    unfold sizeP at e ⊢
    by_cases hq : isQ p = true
    · rw [if_pos hq] at e ⊢
      exact sizeG_mono h (by omega) e
    · rw [if_neg hq] at e ⊢
      cases e1 : look s p with
      | none => rw [e1] at e; cases e
      | some v =>
        rw [e1] at e
        obtain ⟨v', e2, hv⟩ := h p v e1
        rw [e2]
        exact sizeG_mono h (show a' + v' ≤ a + v by omega) e
theorem sizeG_le {s : Sz} {q B : Int} (hq : q ≤ B) (hs : ∀ z v, look s z = some v → v ≤ B) : ∀ {ps : List Str} {a k : Int}, sizeG s q ps a = some k → k ≤ a + ps.length * B
  | [], a, k, e => by
    unfold sizeG at e
    cases e
    simp
  | p :: ps, a, k, e => by
    unfold sizeG at e
    cases e1 : sizeP s q p with
    | none => rw [e1] at e; cases e
    | some m =>
      rw [e1] at e
      have hm : m ≤ B := by
        unfold sizeP at e1
        split at e1
        · cases e1; exact hq
        · exact hs p m e1
      have := sizeG_le hq hs e
      rw [List.length_cons, show (((ps.length + 1 : Nat) : Int)) * B = ps.length * B + B by rw [Int.natCast_add]; show ((ps.length : Int) + 1) * B = _; rw [Int.add_mul, Int.one_mul]]
      omega
theorem sizeG_ge {s : Sz} {q : Int} (hq : 0 ≤ q) (hs : ∀ z v, look s z = some v → 0 ≤ v) : ∀ {ps : List Str} {a k : Int}, sizeG s q ps a = some k → a ≤ k
  | [], a, k, e => by
    unfold sizeG at e
    cases e
    exact Int.le_refl _
  | p :: ps, a, k, e => by
    unfold sizeG at e
    cases e1 : sizeP s q p with
    | none => rw [e1] at e; cases e
    | some m =>
      rw [e1] at e
      have hm : 0 ≤ m := by
        unfold sizeP at e1
        split at e1
        · cases e1; exact hq
        · exact hs p m e1
      have := sizeG_ge hq hs e
      omega
def bnd (q : Int) (n : Nat) : Int := (1 + 6 * q) * 7 ^ n
theorem bnd_pos {q : Int} (hq : 0 ≤ q) (n : Nat) : 1 + 6 * q ≤ bnd q n := by
  unfold bnd
  have h1 : (1 : Int) ≤ 7 ^ n := Int.pow_pos (by decide : (0 : Int) < 7)
  have := Int.mul_le_mul_of_nonneg_left h1 (show 0 ≤ 1 + 6 * q by omega)
  rw [Int.mul_one] at this
  exact this
theorem bnd_succ (q : Int) (n : Nat) : bnd q (n + 1) = 7 * bnd q n := by
  unfold bnd
  rw [Int.pow_succ, ← Int.mul_assoc, Int.mul_comm]
theorem bnd_mono {q : Int} (hq : 0 ≤ q) {m n : Nat} (h : m ≤ n) : bnd q m ≤ bnd q n := by
  induction h with
  | refl => exact Int.le_refl _
  | step _ ih =>
    rename_i k _
    rw [bnd_succ]
    have h2 := bnd_pos hq k
    omega
structure SzOk (g : Gram) (q : Int) (s : Sz) : Prop where
  nd : (s.map (·.1)).Nodup
  pos : ∀ z v, look s z = some v → 1 ≤ v
  bd : ∀ z v, look s z = some v → v ≤ bnd q s.length
  hd : ∀ z v, look s z = some v → ∃ r ∈ g, r.1 = z ∧ ∃ m, sizeR s q r.2.1 = some m ∧ m ≤ v
def Fix (g : Gram) (q : Int) (s : Sz) : Prop := ∀ r ∈ g, ∀ m, sizeR s q r.2.1 = some m → ∃ v, look s r.1 = some v ∧ v ≤ m
theorem nd_snoc {κ : Type} : ∀ {l : List κ} {k : κ}, l.Nodup → ¬ k ∈ l → (l ++ [k]).Nodup
  | [], k, _, _ => by simp
  | a :: r, k, h, hk => by
    obtain ⟨h1, h2⟩ := List.nodup_cons.mp h
    show (a :: (r ++ [k])).Nodup
    refine List.nodup_cons.mpr ⟨fun m => ?_, nd_snoc h2 fun m => hk (List.mem_cons.mpr (Or.inr m))⟩
    rcases List.mem_append.mp m with q | q
    · exact h1 q
    · exact hk (List.mem_cons.mpr (Or.inl (List.mem_singleton.mp q).symm))
theorem nodup_len {xs ys : List Str} (h : xs.Nodup) (hs : ∀ x ∈ xs, x ∈ ys) : xs.length ≤ ys.length := by
  induction xs generalizing ys with
  | nil => exact Nat.zero_le _
  | cons x xs ih =>
    rw [List.nodup_cons] at h
    have hx := hs x (List.mem_cons_self ..)
    have := ih (ys := ys.erase x) h.2 fun y hy => by
      have hne : y ≠ x := fun e => h.1 (e ▸ hy)
      exact (List.mem_erase_of_ne hne).mpr (hs y (List.mem_cons_of_mem _ hy))
    rw [List.length_erase_of_mem hx] at this
    have hpos := List.length_pos_of_mem hx
    rw [List.length_cons]
    omega
theorem SzOk.len {g : Gram} {q : Int} {s : Sz} (h : SzOk g q s) : s.length ≤ g.length := by
  have := nodup_len (ys := g.map (·.1)) h.nd fun x hx => by
    obtain ⟨p, hp, rfl⟩ := List.mem_map.mp hx
    obtain ⟨r, hr, e, _⟩ := h.hd p.1 p.2 (look_of h.nd hp)
    rw [← e]
    exact List.mem_map.mpr ⟨r, hr, rfl⟩
  rwa [List.length_map, List.length_map] at this

def mu (g : Gram) (q : Int) (s : Sz) : Nat := (g.map fun r => match look s r.1 with
  | none => (bnd q 60).toNat + 1
  | some v => v.toNat).sum
theorem sum_lt {α : Type} {f f' : α → Nat} : ∀ {l : List α}, (∀ x ∈ l, f' x ≤ f x) → (∃ x ∈ l, f' x < f x) → (l.map f').sum < (l.map f).sum
  | [], _, ⟨_, h, _⟩ => by cases h
  | a :: l, h, ⟨x, hx, hlt⟩ => by
    rw [List.map_cons, List.map_cons, List.sum_cons, List.sum_cons]
    have ha := h a (List.mem_cons_self ..)
    have hle : ∀ (l : List α), (∀ x ∈ l, f' x ≤ f x) → (l.map f').sum ≤ (l.map f).sum := by
      intro l
      induction l with
      | nil => intro _; exact Nat.le_refl _
      | cons b l ih =>
        intro h
        rw [List.map_cons, List.map_cons, List.sum_cons, List.sum_cons]
        have h1 := h b (List.mem_cons_self ..)
        have h2 := ih fun x hx => h x (List.mem_cons_of_mem _ hx)
        omega
    rcases List.mem_cons.mp hx with rfl | hx
    · have := hle l fun x hx => h x (List.mem_cons_of_mem _ hx)
      omega
    · have := sum_lt (fun x hx => h x (List.mem_cons_of_mem _ hx)) ⟨x, hx, hlt⟩
      omega
theorem put_len (s : Sz) (z : Str) (n : Int) : (putS s z n).length = if z ∈ s.map (·.1) then s.length else s.length + 1 := by
  have := congrArg List.length (put_keys s z n)
  rw [List.length_map] at this
  rw [this]
  split
  · rw [List.length_map]
  · rw [List.length_append, List.length_map]; rfl

theorem SzOk.step {g : Gram} {q : Int} {s : Sz} (hg : okGram g = true) (hq : 0 ≤ q) (h : SzOk g q s) {r : Rule} (hr : r ∈ g) {m : Int} (hm : sizeR s q r.2.1 = some m) (hv : ∀ v, look s r.1 = some v → m < v) :
    SzOk g q (putS s r.1 m) ∧ mu g q (putS s r.1 m) < mu g q s := by
  have hg60 : g.length ≤ 60 := by
    unfold okGram at hg
    rw [Bool.and_eq_true] at hg
    exact of_decide_eq_true hg.1
  have hr6 : r.2.1.length ≤ 6 := by
    unfold okGram at hg
    rw [Bool.and_eq_true] at hg
    have := List.all_eq_true.mp hg.2 r hr
    unfold okRule at this
    simp only [Bool.and_eq_true, decide_eq_true_eq] at this
    exact this.2.1.1
  have hB := bnd_pos hq s.length
  have hm1 : 1 ≤ m := sizeG_ge hq (fun z v e => Int.le_trans (by decide) (h.pos z v e)) hm
  have hmB : m ≤ 7 * bnd q s.length := by
    have h1 := sizeG_le (show q ≤ bnd q s.length by omega) h.bd hm
    have h2 : (r.2.1.length : Int) * bnd q s.length ≤ 6 * bnd q s.length := Int.mul_le_mul_of_nonneg_right (by omega) (by omega)
    omega
  have le : LeS (putS s r.1 m) s := fun z v e => by
    rw [look_put]
    by_cases hz : z = r.1
    · rw [if_pos hz]
      have := hv v (hz ▸ e)
      exact ⟨m, rfl, by omega⟩
    · rw [if_neg hz]
      exact ⟨v, e, Int.le_refl _⟩
  have nd' : ((putS s r.1 m).map (·.1)).Nodup := by
    rw [put_keys]
    split
    · exact h.nd
    · rename_i hn
      exact nd_snoc h.nd hn
  have bd' : m ≤ bnd q (putS s r.1 m).length := by
    rw [put_len]
    split
    · rename_i hmem
      obtain ⟨p, hp, e⟩ := List.mem_map.mp hmem
      have := look_of h.nd (z := p.1) (n := p.2) hp
      rw [e] at this
      have h1 := hv _ this
      have h2 := h.bd _ _ this
      omega
    · rw [bnd_succ]; exact hmB
  have lenle : s.length ≤ (putS s r.1 m).length := by
    rw [put_len]
    split <;> omega
  have ok' : SzOk g q (putS s r.1 m) := by
    refine ⟨nd', fun z v e => ?_, fun z v e => ?_, fun z v e => ?_⟩
    · rw [look_put] at e
      split at e
      · cases e; exact hm1
      · exact h.pos z v e
    · rw [look_put] at e
      split at e
      · cases e; exact bd'
      · exact Int.le_trans (h.bd z v e) (bnd_mono hq lenle)
    · rw [look_put] at e
      split at e
      · rename_i hz
        cases e
        obtain ⟨k', e1, e2⟩ := sizeG_mono le (Int.le_refl 1) hm
        exact ⟨r, hr, hz.symm, k', e1, e2⟩
      · obtain ⟨r', hr', e1, k, e2, e3⟩ := h.hd z v e
        obtain ⟨k', e4, e5⟩ := sizeG_mono le (Int.le_refl 1) e2
        exact ⟨r', hr', e1, k', e4, by omega⟩
  refine ⟨ok', ?_⟩
  have hB60 : bnd q (putS s r.1 m).length ≤ bnd q 60 := bnd_mono hq (Nat.le_trans ok'.len hg60)
  have hmB60 : m ≤ bnd q 60 := Int.le_trans bd' hB60
  unfold mu
  refine sum_lt (fun x hx => ?_) ⟨r, hr, ?_⟩
  · rw [look_put]
    by_cases hz : x.1 = r.1
    · rw [if_pos hz, hz]
      cases e : look s r.1 with
      | none => show m.toNat ≤ (bnd q 60).toNat + 1; omega
      | some v =>
        have := hv v e
        show m.toNat ≤ v.toNat
        omega
    · rw [if_neg hz]
      exact Nat.le_refl _
  · rw [look_put, if_pos rfl]
    cases e : look s r.1 with
    | none => show m.toNat < (bnd q 60).toNat + 1; omega
    | some v =>
      have := hv v e
      show m.toNat < v.toNat
      omega
theorem SzOk.nil (g : Gram) (q : Int) : SzOk g q [] where
  nd := List.nodup_nil
  pos := fun z v e => by cases e
  bd := fun z v e => by cases e
  hd := fun z v e => by cases e
end FR


set_option linter.all false
set_option maxRecDepth 100000
set_option maxHeartbeats 4000000
namespace L2
open PySem PySem.Spec PyProof.Rows
section
variable {X : Cx} {pins : List (Addr × Obj)} {σ : St} {H : Hp} {s : Shared} {d : Addr} {o : Obj} {kvs : List (Key × V)}
end
theorem KV.get {kvs : List (Key × V)} {vs : List (Key × Value)} (r : KV kvs vs) : ∀ {i : Nat} {kv : Key × V}, kvs[i]? = some kv → ∃ u, vs[i]? = some (kv.1, u) ∧ RelV kv.2 u := by
  unfold KV at r
  induction r with
  | nil => intro i kv e; cases e
  | @cons p q ps qs h t ih =>
    intro i kv e
    cases i with
    | zero =>
      cases e
      exact ⟨q.2, by rw [h.1]; rfl, h.2⟩
    | succ j => exact ih (i := j) e

def Itd (d : Addr) (o : Obj) (kvs : List (Key × V)) : It :=
  ⟨fun i H => H d = some (.frz o (.dK kvs)) ∧ i < kvs.length, fun i H v H' => ∃ T kv, H T = none ∧ v = .ref T ∧ kvs[i]? = some kv ∧ H' = upd H T (.tup [kV kv.1, kv.2]), fun i H => H d = some (.frz o (.dK kvs)) ∧ kvs.length ≤ i⟩
def thawN (Z : Addr → Prop) (q : St → Hp → Prop) : St → Hp → Prop := fun σ H => ∃ d o kvs, Z d ∧ H d = some (.frz o (.dK kvs)) ∧ q σ (upd H d (.dK kvs))
def thawR (Z : Addr → Prop) (q : VK) : VK := fun v H => ∃ d o kvs, Z d ∧ H d = some (.frz o (.dK kvs)) ∧ q v (upd H d (.dK kvs))
def tForD (to : TE) (g : TG) (tb : TS) : TS := fun D σ H => to σ H fun x H1 => ∃ d kvs, x = .ref d ∧ H1 d = some (.dK kvs) ∧ ∀ (o : Obj) (Z : Addr → Prop), Z d →
  ∃ W : Nat → Nat → St → Hp → Prop, (∃ m, W 0 m σ (upd H1 d (.frz o (.dK kvs)))) ∧ ∀ i m σ H, W i m σ H → H d = some (.frz o (.dK kvs)) ∧
    ((kvs.length ≤ i ∧ D.nx σ (upd H d (.dK kvs))) ∨ (∃ N : St → Hp → Prop, (∀ σ' H', N σ' H' → ∃ m', m' < m ∧ W (i + 1) m' σ' H') ∧ ∃ kv, kvs[i]? = some kv ∧ ∀ T, H T = none → g (.ref T) σ (upd H T (.tup [kV kv.1, kv.2])) fun σ2 H2 => tb { nx := N, ct := N, bk := thawN Z D.nx, rt := thawR Z D.rt } σ2 H2))
section
variable {X : Cx} {elts : List Expr} {k : Nat} {tpos : Pos}
end

def updL (H : Hp) : List (Addr × HO) → Hp
  | [] => H
  | p :: r => updL (upd H p.1 p.2) r
def FreshL (H : Hp) : List (Addr × HO) → Prop
  | [] => True
  | p :: r => H p.1 = none ∧ FreshL (upd H p.1 p.2) r
end L2


set_option linter.all false
set_option maxRecDepth 100000
set_option maxHeartbeats 4000000
namespace FR
open PySem L2
def dueStep (s : Sz) (z : Str) (acc : Option Int) (r : Rule) : Option Int := if r.1 = z then (match sizeR s 0 r.2.1 with
  | none => acc
  | some m => match acc with
    | none => some m
    | some v => if m < v then some m else some v) else acc
def dueOf (s : Sz) (z : Str) (g : Gram) : Option Int := g.foldl (dueStep s z) none
def unQ (ps : List Str) : List Str := ps.filter fun p => !isQ p
theorem sizeG_all {s : Sz} {ps : List Str} : ∀ {a : Int}, (∀ p ∈ ps, isQ p = false → (look s p).isSome = true) → sizeG s 0 ps a = some (a + ((unQ ps).map fun p => (look s p).getD 0).sum) := by
  induction ps with
  | nil =>
    intro a _
    show some a = some (a + 0)
    rw [Int.add_zero]
  | cons p ps ih =>
    intro a h
    have ih := fun a => ih (a := a) fun q hq => h q (List.mem_cons_of_mem _ hq)
    unfold sizeG sizeP
    by_cases hq : isQ p = true
    · rw [if_pos hq]
      show sizeG s 0 ps (a + 0) = _
      rw [Int.add_zero, ih a]
      unfold unQ
      rw [List.filter_cons, hq]
      rfl
    · rw [if_neg hq]
      have hq' : isQ p = false := Bool.eq_false_iff.mpr hq
      have hs := h p (List.mem_cons_self ..) hq'
      cases e : look s p with
      | none => rw [e] at hs; cases hs
      | some v =>
        show sizeG s 0 ps (a + v) = _
        rw [ih (a + v)]
        unfold unQ
        rw [List.filter_cons, hq']
        show _ = some (a + ((p :: ps.filter fun p => !isQ p).map fun p => (look s p).getD 0).sum)
        rw [List.map_cons, List.sum_cons, e]
        show some (a + v + _) = some (a + (v + _))
        rw [Int.add_assoc]
theorem sizeG_part {s : Sz} (hpos : ∀ z v, look s z = some v → 1 ≤ v) {ps : List Str} : ∀ {a k : Int}, sizeG s 0 ps a = some k → a ≤ k ∧ ∀ p ∈ ps, isQ p = false → ∃ v, look s p = some v ∧ a + v ≤ k := by
  induction ps with
  | nil =>
    intro a k e
    unfold sizeG at e
    cases e
    exact ⟨Int.le_refl _, fun p hp => by cases hp⟩
  | cons p ps ih =>
    intro a k e
    unfold sizeG sizeP at e
    by_cases hq : isQ p = true
    · rw [if_pos hq] at e
      obtain ⟨h1, h2⟩ := ih (a := a + 0) e
      rw [Int.add_zero] at h1
      refine ⟨h1, fun x hx hn => ?_⟩
      rcases List.mem_cons.mp hx with rfl | hx
      · rw [hq] at hn; cases hn
      · obtain ⟨v, e1, e2⟩ := h2 x hx hn
        exact ⟨v, e1, by omega⟩
    · rw [if_neg hq] at e
      cases e1 : look s p with
      | none => rw [e1] at e; cases e
      | some v =>
        rw [e1] at e
        obtain ⟨h1, h2⟩ := ih (a := a + v) e
        have hv := hpos p v e1
        refine ⟨by omega, fun x hx hn => ?_⟩
        rcases List.mem_cons.mp hx with rfl | hx
        · exact ⟨v, e1, h1⟩
        · obtain ⟨v', e2, e3⟩ := h2 x hx hn
          exact ⟨v', e2, by omega⟩
theorem sizeG_le2 {s s' : Sz} {ps : List Str} : ∀ {a a' k : Int}, a' ≤ a → (∀ p ∈ ps, isQ p = false → ∀ v, look s p = some v → ∃ v', look s' p = some v' ∧ v' ≤ v) → sizeG s 0 ps a = some k → ∃ k', sizeG s' 0 ps a' = some k' ∧ k' ≤ k := by
  induction ps with
  | nil =>
    intro a a' k ha _ e
    unfold sizeG at e ⊢
    cases e
    exact ⟨_, rfl, ha⟩
  | cons p ps ih =>
    intro a a' k ha h e
    unfold sizeG sizeP at e ⊢
    have h' := fun q hq => h q (List.mem_cons_of_mem _ hq)
    by_cases hq : isQ p = true
    · rw [if_pos hq] at e ⊢
      exact ih (by omega) h' e
    · rw [if_neg hq] at e ⊢
      cases e1 : look s p with
      | none => rw [e1] at e; cases e
      | some v =>
        rw [e1] at e
        obtain ⟨v', e2, hv⟩ := h p (List.mem_cons_self ..) (Bool.eq_false_iff.mpr hq) v e1
        rw [e2]
        exact ih (show a' + v' ≤ a + v by omega) h' e

theorem sz_le {g : Gram} {s s' : Sz} (h : SzOk g 0 s) (f' : Fix g 0 s') : ∀ (n : Nat) (z : Str) (v : Int), v.toNat ≤ n → look s z = some v → ∃ v', look s' z = some v' ∧ v' ≤ v := by
  intro n
  induction n with
  | zero =>
    intro z v hn e
    have := h.pos z v e
    omega
  | succ n ih =>
    intro z v hn e
    obtain ⟨r, hr, rfl, m, e1, hm⟩ := h.hd z v e
    obtain ⟨m1, part⟩ := sizeG_part h.pos e1
    have := h.pos _ v e
    obtain ⟨k', e2, hk⟩ := sizeG_le2 (s' := s') (Int.le_refl 1) (fun p hp hq v1 e3 => by
      obtain ⟨v2, e4, hle⟩ := part p hp hq
      rw [e3] at e4
      cases e4
      exact ih p v1 (by omega) e3) e1
    obtain ⟨v', e5, hv'⟩ := f' r hr k' e2
    exact ⟨v', e5, by omega⟩
theorem sz_one {g : Gram} {s s' : Sz} (h : SzOk g 0 s) (f : Fix g 0 s) (h' : SzOk g 0 s') (f' : Fix g 0 s') (z : Str) : look s z = look s' z := by
  cases e : look s z with
  | none =>
    cases e' : look s' z with
    | none => rfl
    | some v' =>
      obtain ⟨v, e1, _⟩ := sz_le h' f _ z v' (Nat.le_refl _) e'
      rw [e] at e1
      cases e1
  | some v =>
    obtain ⟨v', e1, h1⟩ := sz_le h f' _ z v (Nat.le_refl _) e
    obtain ⟨v2, e2, h2⟩ := sz_le h' f _ z v' (Nat.le_refl _) e1
    rw [e] at e2
    cases e2
    rw [e1]
    congr 1
    omega
end FR


set_option linter.all false
set_option maxRecDepth 100000
set_option maxHeartbeats 4000000
namespace L2
open PySem PySem.Spec PyProof.Rows
theorem rv_mro : mroOf (.type "reversed") = pure [.type "reversed", .type "object"] := by rw [mroOf_type]; kernel_rfl
theorem rv_newl : typeLookup (.type "reversed") "__new__" = pure (some (.builtin "reversed.__new__")) := by rw [typeLookup_type, builtinLookup_eq_fast]; kernel_rfl
theorem rv_init : Slot "reversed" "__init__" "object.__init__" := .of (owner := "object") (n := "__init__") (by rw [typeLookup_type, builtinLookup_eq_fast]; kernel_rfl) (by decide +kernel) (by decide +kernel) (by decide +kernel) (by first | exact .inl (by decide +kernel) | exact .inr (by decide +kernel)) (by rw [isSubtype_type]; kernel_rfl)
theorem rv_called : TypeCalled "reversed" "reversed.__new__" "object.__init__" := ⟨by decide +kernel, by decide +kernel, ⟨_, _, rv_mro⟩, madeBy_type rv_mro rv_newl (by decide +kernel), by decide +kernel, by rw [isSubtype_type]; kernel_rfl, rv_init⟩
theorem rv_typeCall (a : Value) : checkTypeCall "reversed" ⟨[a], []⟩ = pure () := by kernel_rfl
theorem rv_newCall (a : Value) : checkBuiltinCall "reversed.__new__" ⟨[.type "reversed", a], []⟩ = pure () := by kernel_rfl
theorem rv_entry : entryFor table "reversed.__new__" = some Builtin.«reversed.__new__» := entryFor_of_tree (by kernel_rfl)
theorem rv_noRev : typeLookup (.type "tuple") "__reversed__" = pure none := by rw [typeLookup_type, builtinLookup_eq_fast]; kernel_rfl
theorem rv_get : typeLookup (.type "tuple") "__getitem__" = pure (some (.builtin "tuple.__getitem__")) := by rw [typeLookup_type, builtinLookup_eq_fast]; kernel_rfl
theorem rv_ndict : isSubtype (.type "tuple") (.type "dict") = pure false := by rw [isSubtype_type]; kernel_rfl
theorem rv_nsub : isSubtype (.type "list_reverseiterator") (.type "reversed") = pure false := by rw [isSubtype_type]; kernel_rfl
theorem lr_slotI : Slot "list_reverseiterator" "__iter__" "list_reverseiterator.__iter__" := .of (owner := "list_reverseiterator") (n := "__iter__") (by rw [typeLookup_type, builtinLookup_eq_fast]; kernel_rfl) (by decide +kernel) (by decide +kernel) (by decide +kernel) (by first | exact .inl (by decide +kernel) | exact .inr (by decide +kernel)) (by rw [isSubtype_type]; kernel_rfl)
theorem lr_slotN : Slot "list_reverseiterator" "__next__" "list_reverseiterator.__next__" := .of (owner := "list_reverseiterator") (n := "__next__") (by rw [typeLookup_type, builtinLookup_eq_fast]; kernel_rfl) (by decide +kernel) (by decide +kernel) (by decide +kernel) (by first | exact .inl (by decide +kernel) | exact .inr (by decide +kernel)) (by rw [isSubtype_type]; kernel_rfl)
theorem lr_entI : entryFor table "list_reverseiterator.__iter__" = some Builtin.«dict_keyiterator.__iter__» := entryFor_alias (id' := "dict_keyiterator.__iter__") (by kernel_rfl) rfl (by decide +kernel) (by kernel_rfl)
theorem lr_entN : entryFor table "list_reverseiterator.__next__" = some Builtin.«list_reverseiterator.__next__» := entryFor_of_tree (by kernel_rfl)
theorem lr_argI (a : Value) : argsOk "list_reverseiterator.__iter__" ⟨[a], []⟩ := by unfold argsOk; kernel_rfl
theorem lr_argN (a : Value) : argsOk "list_reverseiterator.__next__" ⟨[a], []⟩ := by unfold argsOk; kernel_rfl
theorem rv_slotI : Slot "reversed" "__iter__" "reversed.__iter__" := .of (owner := "reversed") (n := "__iter__") (by rw [typeLookup_type, builtinLookup_eq_fast]; kernel_rfl) (by decide +kernel) (by decide +kernel) (by decide +kernel) (by first | exact .inl (by decide +kernel) | exact .inr (by decide +kernel)) (by rw [isSubtype_type]; kernel_rfl)
theorem rv_slotN : Slot "reversed" "__next__" "reversed.__next__" := .of (owner := "reversed") (n := "__next__") (by rw [typeLookup_type, builtinLookup_eq_fast]; kernel_rfl) (by decide +kernel) (by decide +kernel) (by decide +kernel) (by first | exact .inl (by decide +kernel) | exact .inr (by decide +kernel)) (by rw [isSubtype_type]; kernel_rfl)
theorem rv_entI : entryFor table "reversed.__iter__" = some Builtin.«dict_keyiterator.__iter__» := entryFor_alias (id' := "dict_keyiterator.__iter__") (by kernel_rfl) rfl (by decide +kernel) (by kernel_rfl)
theorem rv_entN : entryFor table "reversed.__next__" = some Builtin.«reversed.__next__» := entryFor_of_tree (by kernel_rfl)
theorem rv_argI (a : Value) : argsOk "reversed.__iter__" ⟨[a], []⟩ := by unfold argsOk; kernel_rfl
theorem rv_argN (a : Value) : argsOk "reversed.__next__" ⟨[a], []⟩ := by unfold argsOk; kernel_rfl
end L2


set_option linter.all false
set_option maxRecDepth 100000
set_option maxHeartbeats 4000000
namespace L2
open PySem PySem.Spec PyProof.Rows
theorem meets_rev_list (l : Addr) (items : Array Value) (n : Nat) :
    Meets (Builtin.«reversed.__new__» ⟨[.type "reversed", .ref l], []⟩) (fun A R s => s.heap.get? l = some { cls := .type "list", dict := none, data := .seq items n, slots := #[] } ∧
      R (.ok (.ret (.ref s.heap.objs.size))) { s with heap := s.heap.push { cls := .type "list_reverseiterator", data := .fields #[.ref l, rawInt ((items.size : Int) - 1)] } }) :=
  .of_wp fun prog w A R s h => by
    obtain ⟨hp, g, d, tk, os⟩ := s
    obtain ⟨hl, h⟩ := h
    have hsub := rv_called.sub
    have hT : Shared.TypeIs ⟨hp, g, d, tk, os⟩ (.ref l) "list" := ⟨_, hl, rfl⟩
    have hrev := F.slot_list_reversed.lookup
    have hb := F.slot_list_reversed.bind (.ref l)
    wp_walk
    have key := AutoListH.list___reversed___list_0 l items n prog w A.in1 (fun (r : Result) (s' : Shared) => r = Except.ok (Flow.ret (Value.ref hp.objs.size)) ∧ s' = ⟨hp.push { cls := .type "list_reverseiterator", data := .fields #[.ref l, rawInt ((items.size : Int) - 1)] }, g, d, tk, os⟩) ⟨hp, g, d, tk, os⟩ ⟨hl, rfl, rfl⟩
    refine codeAny_mono (codeAny_call_builtin (R := (fun (r : Result) (s' : Shared) => r = Except.ok (Flow.ret (Value.ref hp.objs.size)) ∧ s' = ⟨hp.push { cls := .type "list_reverseiterator", data := .fields #[.ref l, rawInt ((items.size : Int) - 1)] }, g, d, tk, os⟩)) F.slot_list_reversed.plain F.entry_list_reversed (F.slot_list_reversed.check _ _ _ _ _ _ _ _ hT (F.args_list_reversed_1 _) key)) fun r s1 hr => ?_
    obtain ⟨rfl, rfl⟩ := hr
    exact wpAny_pure ⟨_, rfl, h⟩
theorem meets_rev_tuple (l : Addr) (items : Array Value) (o : Obj) (n : Nat) (hc : o.cls = .type "tuple") (hd : o.data = .seq items n) (hz : (items.size : Int) < 2 ^ 63) :
    Meets (Builtin.«reversed.__new__» ⟨[.type "reversed", .ref l], []⟩) (fun A R s => s.heap.get? l = some o ∧
      R (.ok (.ret (.ref s.heap.objs.size))) { s with heap := s.heap.push { cls := .type "reversed", data := .fields #[.ref l, rawInt ((items.size : Int) - 1)] }, toks := s.toks + 1 + 1 }) :=
  .of_wp fun prog w A R s h => by
    obtain ⟨hp, g, d, tk, os⟩ := s
    obtain ⟨hl, h⟩ := h
    have hsub := rv_called.sub
    have hT : Shared.TypeIs ⟨hp, g, d, tk, os⟩ (.ref l) "tuple" := ⟨_, hl, hc⟩
    have h1 := rv_noRev
    have h2 := rv_get
    have h3 := rv_ndict
    have ht : IsTup (Shared.heap ⟨hp, g, d, tk, os⟩) l items := ⟨o, hl, hc, n, hd⟩
    wp_walk using len_tuple ht hz
    exact ⟨_, rfl, h⟩
section
variable {prog : Program} {w : World} {A : Around} {E : Value → Shared → Prop} {s : Shared}

theorem callType_else {T T2 newId initId : String} {Bn : Builtin} {args : List Value} {S : PySem.Spec} {Q : Value → Shared → Prop} (ft : TypeCalled T newId initId) (hn : isSubtype (.type T2) (.type T) = pure false)
    (hct : checkTypeCall T ⟨args, []⟩ = pure ()) (hcn : checkBuiltinCall newId ⟨.type T :: args, []⟩ = pure ()) (entryN : entryFor table newId = some Bn) (g : Meets (Bn ⟨.type T :: args, []⟩) S)
    (h : S A.in1 (wants (fun obj s1 => s1.TypeIs obj T2 ∧ Q obj s1) E) s) : wpAny (model prog w) A (call (.type T) args) Q E s := by
  obtain ⟨_, _, m0⟩ := ft.mro
  have m1 := ft.made; have m2 := ft.sub; have m3 := ft.notType; have m4 := ft.canCreate
  refine wpAny_call (codeAny_of_tree (show wpAny _ _ (callAny (.type T) _) _ _ _ from wpAny_pure ⟨Code.quiet_builtin _ (by decide +kernel), codeAny_builtin F.entry_type_call ?_⟩))
  rw [Around.under_plain (weight_type_call_type T args []) (units_type_call_type T args [])]; repeat any_goals first | assumption | wp_step
  refine codeAny_mono (codeAny_call_builtin ft.plain entryN (wpAny_of_eq hcn (g prog w A.in1 _ s h))) fun r s1 hr => ?_
  rcases r with e | fl
  · exact hr
  · cases fl with
    | ret obj =>
      obtain ⟨hT, hq⟩ := hr
      repeat any_goals first | assumption | wp_step
    | _ => exact hr.elim

theorem stop_it {α : Type} {Q : α → Shared → Prop} {E' : Value → Shared → Prop} (hh : A.handled = none) (h : ∀ e h', (∀ b o, s.heap.get? b = some o → h'.get? b = some o) → Shared.TypeIs { s with heap := h' } e "StopIteration" → E' e { s with heap := h' }) :
    wpAny (model prog w) A (Builtin.SmallTypes.stopIteration : Sem α) Q E' s := by
  unfold Builtin.SmallTypes.stopIteration
  refine wpAny_bind ?_
  simp only [newExc, newTuple]
  refine wpAny_bind (wpAny_newObj_type (wpAny_bind (m := firstArgMember _ _) (wpAny_of_eq (a := Value.none) (by first | rfl | (simp only [firstArgMember]; rfl)) (wpAny_newObj_type ?_ (by size_fits)))) (by size_fits))
  simp only [raiseNew]
  refine wpAny_bind (wpAny_handled ?_)
  rw [hh]
  refine wpAny_bind (wpAny_pure (wpAny_throw (h _ _ (fun b o e => Heap.get?_push_of_some _ (Heap.get?_push_of_some _ e)) ?_)))
  exact ⟨_, Heap.get?_push_size _ rfl, rfl⟩

def RevL (h : Heap) (it l : Addr) (i : Int) : Prop := ∃ o, h.get? it = some o ∧ o.cls = .type "list_reverseiterator" ∧ o.data = .fields #[.ref l, .int i 0]
def RevT (h : Heap) (it l : Addr) (i : Int) : Prop := ∃ o, h.get? it = some o ∧ o.cls = .type "reversed" ∧ o.data = .fields #[.ref l, .int i 0]
theorem call_rev_list {l : Addr} {items : Array Value} {n : Nat} {Q : Value → Shared → Prop} (hl : s.heap.get? l = some { cls := .type "list", dict := none, data := .seq items n, slots := #[] })
    (h : ∀ h', RevL h' s.heap.objs.size l ((items.size : Int) - 1) → (∀ b o, s.heap.get? b = some o → h'.get? b = some o) → Q (.ref s.heap.objs.size) { s with heap := h' }) : wpAny (model prog w) A (call (.type "reversed") [.ref l]) Q E s := by
  refine callType_else rv_called rv_nsub (rv_typeCall _) (rv_newCall _) rv_entry (meets_rev_list l items n) ⟨hl, ?_⟩
  exact ⟨⟨_, Heap.get?_push_size _ rfl, rfl⟩, h _ ⟨_, Heap.get?_push_size _ rfl, rfl, rfl⟩ fun b o e => Heap.get?_push_of_some _ e⟩
theorem call_rev_tuple {l : Addr} {items : Array Value} {Q : Value → Shared → Prop} (hl : IsTup s.heap l items) (hz : (items.size : Int) < 2 ^ 63)
    (h : ∀ h', RevT h' s.heap.objs.size l ((items.size : Int) - 1) → (∀ b o, s.heap.get? b = some o → h'.get? b = some o) → Q (.ref s.heap.objs.size) { s with heap := h', toks := s.toks + 1 + 1 }) : wpAny (model prog w) A (call (.type "reversed") [.ref l]) Q E s := by
  obtain ⟨o, ho, hc, n, hd⟩ := hl
  refine callType_new rv_called (by decide) (rv_typeCall _) (rv_newCall _) (fun obj => F.args_object_init_2 obj _) rv_entry (meets_rev_tuple l items o n hc hd hz) ⟨ho, ?_⟩
  exact ⟨⟨_, Heap.get?_push_size _ rfl, rfl⟩, h _ ⟨_, Heap.get?_push_size _ rfl, rfl, rfl⟩ fun b o e => Heap.get?_push_of_some _ e⟩
theorem iter_revL {it l : Addr} {i : Int} {Q : Value → Shared → Prop} (hit : RevL s.heap it l i) (h : Q (.ref it) s) : wpAny (model prog w) A (pyIter (.ref it)) Q E s := by
  obtain ⟨o, ho, hc, hd⟩ := hit
  have hT : s.TypeIs (.ref it) "list_reverseiterator" := ⟨o, ho, hc⟩
  refine wpAny_pyIter_slot hT lr_slotI (wpAny_call_entry lr_slotI hT lr_entI ?_ (lr_argI _))
  show wpAny _ _ (ret (.ref it)) _ _ s
  exact wpAny_pure ⟨_, rfl, "list_reverseiterator", _, hT, lr_slotN.lookup, h⟩
theorem iter_revT {it l : Addr} {i : Int} {Q : Value → Shared → Prop} (hit : RevT s.heap it l i) (h : Q (.ref it) s) : wpAny (model prog w) A (pyIter (.ref it)) Q E s := by
  obtain ⟨o, ho, hc, hd⟩ := hit
  have hT : s.TypeIs (.ref it) "reversed" := ⟨o, ho, hc⟩
  refine wpAny_pyIter_slot hT rv_slotI (wpAny_call_entry rv_slotI hT rv_entI ?_ (rv_argI _))
  show wpAny _ _ (ret (.ref it)) _ _ s
  exact wpAny_pure ⟨_, rfl, "reversed", _, hT, rv_slotN.lookup, h⟩
theorem next_revL {it l : Addr} {i : Nat} {items : Array Value} {x : Value} {Q : Option Value → Shared → Prop} (hit : RevL s.heap it l i) (hl : s.heap.IsList l items) (hx : items[i]? = some x)
    (hQ : ∀ h', RevL h' it l ((i : Int) - 1) → Heap.SameBut it s.heap h' → Q (some x) { s with heap := h' }) : wpAny (model prog w) A (pyNext (.ref it)) Q E s := by
  obtain ⟨o, ho, hc, hd⟩ := id hit
  obtain ⟨ol, hol, _, nl, hdl⟩ := hl
  have hT : s.TypeIs (.ref it) "list_reverseiterator" := ⟨o, ho, hc⟩
  unfold pyNext
  refine wpAny_bind (wpAny_attempt (wpAny_callSpecial?_slot (name := Str.ofString "__next__") hT lr_slotN (wpAny_call_entry lr_slotN hT lr_entN ?_ (lr_argN _))))
  unfold Builtin.«list_reverseiterator.__next__»
  refine wpAny_bind (wpAny_pure (wpAny_bind (wpAny_field ho hd (x := .int i 0) rfl ?_)))
  show wpAny _ _ (if ((i : Nat) : Int) < 0 then _ else _) _ _ s
  rw [if_neg (by omega)]
  refine wpAny_bind (wpAny_field ho hd (x := .ref l) rfl (wpAny_bind (wpAny_seqItems hol hdl ?_)))
  simp only [hx, Int.toNat_natCast]
  exact wpAny_bind (wpAny_setField ho hd (by simp) (wpAny_pure ⟨_, rfl, wpAny_pure (hQ _ ⟨_, Heap.get?_update_self _ ho (Obj.isFreed_of_fields (Obj.data_mapFields hd _)), (Obj.cls_mapFields ..).trans hc, by rw [Obj.data_mapFields hd]; simp [rawInt]⟩ (Heap.SameBut.update ..))⟩))
theorem next_revT {it l : Addr} {i : Nat} {items : Array Value} {x : Value} {Q : Option Value → Shared → Prop} (hit : RevT s.heap it l i) (hl : IsTup s.heap l items) (hx : items[i]? = some x) (hz : (items.size : Int) < 2 ^ 63)
    (hQ : ∀ h', RevT h' it l ((i : Int) - 1) → Heap.SameBut it s.heap h' → Q (some x) { s with heap := h', toks := s.toks + 1 }) : wpAny (model prog w) A (pyNext (.ref it)) Q E s := by
  obtain ⟨o, ho, hc, hd⟩ := id hit
  have hT : s.TypeIs (.ref it) "reversed" := ⟨o, ho, hc⟩
  unfold pyNext
  refine wpAny_bind (wpAny_attempt (wpAny_callSpecial?_slot (name := Str.ofString "__next__") hT rv_slotN (wpAny_call_entry rv_slotN hT rv_entN ?_ (rv_argN _))))
  unfold Builtin.«reversed.__next__»
  refine wpAny_bind (wpAny_pure (wpAny_bind (wpAny_field ho hd (x := .ref l) rfl (wpAny_bind (wpAny_field ho hd (x := .int i 0) rfl ?_)))))
  show wpAny _ _ (if ((i : Nat) : Int) < 0 then _ else _) _ _ s
  rw [if_neg (by omega)]
  refine wpAny_bind (wpAny_specialOf hl.typeIs rv_get ?_)
  show wpAny _ _ (mkInt (i : Int) >>= _) _ _ s
  refine wpAny_bind (wpAny_mkInt ?_)
  have hlt : i < items.size := (Array.getElem?_eq_some_iff.mp hx).1
  have hsi : seqIndex? (i : Int) items.size = some i := by
    unfold seqIndex?
    simp
    omega
  refine wpAny_bind (wpAny_attempt (getItem_tuple (s := { s with toks := s.toks + 1 }) hl (by omega) (by omega) hsi hx ?_))
  refine wpAny_bind (wpAny_field (s := { s with toks := s.toks + 1 }) ho hd (x := .int i 0) rfl ?_)
  exact wpAny_bind (wpAny_setField (s := { s with toks := s.toks + 1 }) ho hd (by simp) (wpAny_pure ⟨_, rfl, wpAny_pure (hQ _ ⟨_, Heap.get?_update_self _ ho (Obj.isFreed_of_fields (Obj.data_mapFields hd _)), (Obj.cls_mapFields ..).trans hc, by rw [Obj.data_mapFields hd]; simp [rawInt]⟩ (Heap.SameBut.update ..))⟩))
theorem end_revL {it l : Addr} {Q : Option Value → Shared → Prop} (hh : A.handled = none) (hit : RevL s.heap it l (-1)) (hQ : ∀ h', Heap.ExtBut it s.heap h' → Q none { s with heap := h' }) : wpAny (model prog w) A (pyNext (.ref it)) Q E s := by
  obtain ⟨o, ho, hc, hd⟩ := id hit
  have hT : s.TypeIs (.ref it) "list_reverseiterator" := ⟨o, ho, hc⟩
  unfold pyNext
  refine wpAny_bind (wpAny_attempt (wpAny_callSpecial?_slot (name := Str.ofString "__next__") hT lr_slotN (wpAny_call_entry lr_slotN hT lr_entN ?_ (lr_argN _))))
  unfold Builtin.«list_reverseiterator.__next__»
  refine wpAny_bind (wpAny_pure (wpAny_bind (wpAny_field ho hd (x := .int (-1) 0) rfl ?_)))
  show wpAny _ _ (if (-1 : Int) < 0 then _ else _) _ _ s
  rw [if_pos (by decide)]
  refine wpAny_bind (wpAny_rule (wpAny_bind (stop_it (A := A.in1) hh fun e h' k ty => ?_)))
  exact wpAny_bind (wpAny_isInstance (b := true) ty isSubtype_stop (wpAny_pure (hQ h' fun b o _ q => k b o q)))
theorem end_revT {it l : Addr} {Q : Option Value → Shared → Prop} (hh : A.handled = none) (hit : RevT s.heap it l (-1)) (hQ : ∀ h', Heap.ExtBut it s.heap h' → Q none { s with heap := h' }) : wpAny (model prog w) A (pyNext (.ref it)) Q E s := by
  obtain ⟨o, ho, hc, hd⟩ := id hit
  have hT : s.TypeIs (.ref it) "reversed" := ⟨o, ho, hc⟩
  unfold pyNext
  refine wpAny_bind (wpAny_attempt (wpAny_callSpecial?_slot (name := Str.ofString "__next__") hT rv_slotN (wpAny_call_entry rv_slotN hT rv_entN ?_ (rv_argN _))))
  unfold Builtin.«reversed.__next__»
  refine wpAny_bind (wpAny_pure (wpAny_bind (wpAny_field ho hd (x := .ref l) rfl (wpAny_bind (wpAny_field ho hd (x := .int (-1) 0) rfl ?_)))))
  show wpAny _ _ (if (-1 : Int) < 0 then _ else _) _ _ s
  rw [if_pos (by decide)]
  refine wpAny_bind (wpAny_rule (wpAny_bind (show wpAny _ _ (setField (.ref it) 1 (rawInt (-1)) >>= fun _ => setField (.ref it) 0 Value.none) _ _ s from wpAny_bind (wpAny_setField ho hd (by simp) ?_))))
  have ho2 := Heap.get?_update_self (h := s.heap) (a := it) (o := o) (fun o => o.mapFields fun vs => vs.set! 1 (rawInt (-1))) ho (Obj.isFreed_of_fields (Obj.data_mapFields hd _))
  have hd2 : (Obj.mapFields (fun vs => vs.set! 1 (rawInt (-1))) o).data = .fields #[.ref l, rawInt (-1)] := by rw [Obj.data_mapFields hd]; simp
  have b1 : Heap.SameBut it s.heap (s.heap.update it fun o => Obj.mapFields (fun vs => vs.set! 1 (rawInt (-1))) o) := Heap.SameBut.update ..
  refine wpAny_setField (s := { s with heap := s.heap.update it fun o => Obj.mapFields (fun vs => vs.set! 1 (rawInt (-1))) o }) ho2 hd2 (by simp) (wpAny_bind (stop_it (A := A.in1) hh fun e h' k ty => ?_))
  refine wpAny_bind (wpAny_isInstance (b := true) ty isSubtype_stop (wpAny_pure (hQ h' fun b o hb q => k b o ?_)))
  exact ((Heap.SameBut.update ..).2 b hb).trans ((b1.2 b hb).trans q)
end
end L2


set_option linter.all false
set_option maxRecDepth 100000
set_option maxHeartbeats 4000000
namespace L2
open PySem PySem.Spec PyProof.Rows
theorem lr_nolen : typeLookup (.type "list_reverseiterator") "__len__" = pure none := by rw [typeLookup_type, builtinLookup_eq_fast]; kernel_rfl
theorem lr_hint : typeLookup (.type "list_reverseiterator") "__length_hint__" = pure (some (.builtin "list_reverseiterator.__length_hint__")) := by rw [typeLookup_type, builtinLookup_eq_fast]; kernel_rfl
section
variable {prog : Program} {w : World} {A : Around} {E : Value → Shared → Prop} {s : Shared}
theorem walks_revL (hh : A.handled = none) (it l : Addr) (hne : l ≠ it) (items : Array Value) :
    Walks prog w A it [it, l] [it] items.size (fun i v => items[items.size - 1 - i]? = some v) (fun i h => RevL h it l ((items.size : Int) - 1 - i) ∧ h.IsList l items) where
  sub := fun b hb => by simp at hb; simp [hb]
  frame := fun i h h' st hk => by
    obtain ⟨⟨o, a, b, c⟩, q⟩ := st
    exact ⟨⟨o, hk it (by simp) o a, b, c⟩, q.at fun o e => hk l (by simp) o e⟩
  item := fun i s Q E hi st hQ => by
    have e : ((items.size : Int) - 1 - (i : Nat)) = ((items.size - 1 - i : Nat) : Int) := by omega
    rw [e] at st
    refine next_revL st.1 st.2 (x := items[items.size - 1 - i]) (by simp) fun h' hit' hs' => ?_
    refine hQ _ h' s.toks (by simp) ⟨?_, st.2.extBut hs'.extBut hne⟩ fun b o hb q => hs'.extBut b o (fun z => hb (by simp [z])) q
    have e2 : ((items.size - 1 - i : Nat) : Int) - 1 = (items.size : Int) - 1 - ((i + 1 : Nat) : Int) := by omega
    rw [e2] at hit'
    exact hit'
  done := fun s Q E st hQ => by
    have e : ((items.size : Int) - 1 - (items.size : Nat)) = -1 := by omega
    rw [e] at st
    exact end_revL hh st.1 fun h' he' => hQ h' s.toks fun b o hb q => he' b o (fun z => hb (by simp [z])) q
  self := fun _ _ _ _ st hQ => iter_revL st.1 hQ
theorem hint_revL {it l : Addr} {i : Int} {Q : Bool → Shared → Prop} (hit : RevL s.heap it l i) (h : Q false s) : wpAny (model prog w) A (Builtin.List.listLengthHint (.ref it)) Q E s := by
  obtain ⟨o, ho, hc, hd⟩ := hit
  have hT : s.TypeIs (.ref it) "list_reverseiterator" := ⟨o, ho, hc⟩
  unfold Builtin.List.listLengthHint
  refine wpAny_bind (wpAny_specialOf hT lr_nolen ?_)
  show wpAny _ _ (specialOf (Value.ref it) (Str.ofString "__length_hint__") >>= _) _ _ _
  refine wpAny_bind (wpAny_specialOf hT lr_hint ?_)
  generalize hid : ("list_reverseiterator.__length_hint__" : String) = id0
  wp_delta; rw [show splitId id0 = some ("list_reverseiterator", "__length_hint__") from by subst hid; decide +kernel]; subst hid
  refine wpAny_bind (wpAny_isInstance (T := "list_reverseiterator") (b := true) hT (by rw [isSubtype_type]; kernel_rfl) ?_)
  exact wpAny_pure h

theorem call_list_revL {it l : Addr} {items : Array Value} {Q : Value → Shared → Prop} (hh : A.handled = none) (hit : RevL s.heap it l ((items.size : Int) - 1)) (hl : s.heap.IsList l items) (hne : l ≠ it) (hn : items.size ≤ sizeLine)
    (hQ : ∀ h' tk acc' c', (∀ b o, b ≠ it → s.heap.get? b = some o → h'.get? b = some o) → h'.get? s.heap.objs.size = some { cls := .type "list", dict := none, data := .seq acc' c', slots := #[] } →
      ItemsOf (fun i v => items[items.size - 1 - i]? = some v) acc' items.size → Q (.ref s.heap.objs.size) { s with heap := h', toks := tk }) : wpAny (model prog w) A (call (.type "list") [.ref it]) Q E s := by
  have itlt : it < s.heap.objs.size := by obtain ⟨o, ho, _⟩ := hit; exact Heap.lt_size ho
  have llt : l < s.heap.objs.size := by obtain ⟨o, ho, _⟩ := hl; exact Heap.lt_size ho
  refine callType_codes (Q₁ := fun obj t => obj = .ref s.heap.objs.size ∧ t = { s with heap := s.heap.push { cls := .type "list", data := .seq #[] } }) F.called_list (F.typeCall_list_1 _) F.entry_list_init (code_list_new _ ⟨rfl, rfl⟩) fun obj t ht => ?_
  obtain ⟨rfl, rfl⟩ := ht
  have g0 : (s.heap.push { cls := .type "list", data := .seq #[] }).get? s.heap.objs.size = some { cls := .type "list", data := .seq #[] } := Heap.get?_push_size _ rfl
  refine ⟨⟨_, g0, rfl⟩, F.args_list_init_2 _ _, ?_⟩
  show wpAny _ _ (Builtin.List.listItems (.ref s.heap.objs.size) >>= fun old => Builtin.List.listUpdate (.ref s.heap.objs.size) (fun _ => #[]) >>= fun _ => letGo old.toList.reverse >>= fun _ => Builtin.List.listExtendWith (.ref s.heap.objs.size) (.ref it) .none) _ _ _
  refine wpAny_bind ?_
  unfold Builtin.List.listItems
  refine wpAny_bind (wpAny_seqItems g0 rfl (wpAny_pure ?_))
  refine wpAny_bind (show wpAny _ _ (updateSeq s.heap.objs.size (fun _ => #[])) _ _ _ from wpAny_updateSeq g0 rfl ?_)
  have g1 := Heap.get?_update_self (Obj.mapSeq (fun _ => (#[] : Array Value))) g0 rfl
  have k1 : ∀ b o, s.heap.get? b = some o → ((s.heap.push { cls := .type "list", data := .seq #[] }).update s.heap.objs.size (Obj.mapSeq (fun _ => (#[] : Array Value)))).get? b = some o := fun b o e =>
    (Heap.get?_update_other _ _ (Nat.ne_of_gt (Heap.lt_size e))).trans (Heap.get?_push_of_some _ e)
  have hit1 : RevL ((s.heap.push { cls := .type "list", data := .seq #[] }).update s.heap.objs.size (Obj.mapSeq (fun _ => (#[] : Array Value)))) it l ((items.size : Int) - 1) := by
    obtain ⟨o, ho, r⟩ := hit
    exact ⟨o, k1 it o ho, r⟩
  have hl1 : Heap.IsList ((s.heap.push { cls := .type "list", data := .seq #[] }).update s.heap.objs.size (Obj.mapSeq (fun _ => (#[] : Array Value)))) l items := hl.at fun o e => k1 l o e
  refine wpAny_bind (wpAny_letGo ?_)
  revert g1 k1 hit1 hl1
  generalize (s.heap.push { cls := .type "list", data := .seq #[] }).update s.heap.objs.size (Obj.mapSeq (fun _ => (#[] : Array Value))) = h1
  intro g1 k1 hit1 hl1
  have hT : Shared.TypeIs { s with heap := h1 } (.ref it) "list_reverseiterator" := by obtain ⟨o, ho, hc, _⟩ := hit1; exact ⟨o, ho, hc⟩
  unfold Builtin.List.listExtendWith
  refine wpAny_bind (wpAny_typeOf hT ?_)
  have ns : Builtin.List.listSameRef (.ref s.heap.objs.size) (.ref it) = false := by simp [Builtin.List.listSameRef, Nat.ne_of_gt itlt]
  rw [if_neg (by rw [ns]; decide)]
  refine wpAny_bind (iter_revL hit1 (wpAny_bind (wpAny_holding (hint_revL hit1 ?_))))
  refine (show wpAny _ _ (if _ then _ else _) _ _ _ from ?_)
  rw [if_neg (by decide)]
  have W := (walks_revL (prog := prog) (w := w) (A := A.in1.in1) hh it l hne items).toS
  have nf : s.heap.objs.size ∉ [it, l] := by simp only [List.mem_cons, List.not_mem_nil, or_false, not_or]; exact ⟨Nat.ne_of_gt itlt, Nat.ne_of_gt llt⟩
  refine wpAny_pure ⟨plainId_quiet F.plain_extend_loop _, codeAny_extend_loopS W hn _ nf _ items.size 0 _ _ _ rfl (Nat.zero_le _) ⟨by simpa using hit1, hl1⟩ g1 (ItemsOf.nil _) fun s' acc' c' hm hS' hacc => ?_⟩
  rw [Moved.eq_with hm]
  refine ⟨rfl, hQ s'.heap s'.toks acc' c' (fun b o hb e => hm.heap b o (fun hmem => ?_) (k1 b o e)) hS' hacc⟩
  rcases List.mem_cons.mp hmem with z | hmem
  · rw [z] at e; exact Nat.lt_irrefl _ (Heap.lt_size e)
  · exact hb (List.mem_singleton.mp hmem)
end
end L2


set_option linter.all false
set_option maxRecDepth 100000
set_option maxHeartbeats 4000000
namespace L2
open PySem PySem.Spec PyProof.Rows
def Itrl (K : PySem.W.Frag) (a : Addr) (n : Nat) : It :=
  ⟨fun i H => ∃ xs, SqL K H a xs ∧ xs.length = n ∧ i < n, fun i H x H' => H' = H ∧ ∀ xs, SqL K H a xs → xs[n - 1 - i]? = some x, fun i _ => i = n⟩
def Itrt (K : PySem.W.Frag) (a : Addr) (n : Nat) : It :=
  ⟨fun i H => ∃ xs, SqT K H a xs ∧ xs.length = n ∧ i < n, fun i H x H' => H' = H ∧ ∀ xs, SqT K H a xs → xs[n - 1 - i]? = some x, fun i _ => i = n⟩
theorem turn_revL {P : Program} {w : World} {K : PySem.W.Frag} {tg : Expr} (a it : Addr) (n : Nat) : Turn P w K tg (Itrl K a n) [it] it (fun i h => RevL h it a ((n : Int) - 1 - i)) where
  mem := by simp
  obj := fun i h st b hb => by
    have e : b = it := by simpa using hb
    subst e
    obtain ⟨o, e, c, d⟩ := st
    exact ⟨o, e, fun v z => by rw [d] at z; cases z⟩
  keep := fun i h h' st k => by
    obtain ⟨o, e, r⟩ := st
    exact ⟨o, k it (by simp) o e, r⟩
  item := by
    intro X hP hw hK hc i pins s σ H E I hf st hg
    subst hP hw hK
    obtain ⟨xs, hq, hn, hi⟩ := hg
    obtain ⟨its, rv, p, hz⟩ := I.list hq
    have hx : xs[n - 1 - i]? = some xs[n - 1 - i] := List.getElem?_eq_getElem (by omega)
    obtain ⟨u, hu, ru⟩ := rv.get hx
    obtain ⟨f0, f1, f2, f3, f4, f5⟩ := hf it (by simp)
    have e : (n : Int) - 1 - (i : Nat) = ((n - 1 - i : Nat) : Int) := by omega
    rw [e] at st
    refine next_revL st p.isList (x := u) (by simpa using hu) fun h' st' sb => ?_
    have e2 : ((n - 1 - i : Nat) : Int) - 1 = (n : Int) - 1 - ((i + 1 : Nat) : Int) := by omega
    rw [e2] at st'
    have I1 : Inv X pins σ H { s with heap := h' } := I.turned (t' := s.toks) (fun b o hb e => (sb.2 b hb).trans e) f0 f1 f3 f4 f5
    obtain ⟨o, eo, c, d⟩ := id st'
    exact ⟨u, rfl, go_of (s := { s with heap := h' }) eo c d (by decide) ⟨_, H, I1, ru, ⟨rfl, fun ys hy => by rw [I.list_inj hy hq]; exact hx⟩, st', fun b hb => (hf b hb).1⟩⟩
  done := by
    intro X hP hw hK hc i pins s σ H E I hf st hg
    subst hP hw hK hg
    obtain ⟨f0, f1, f2, f3, f4, f5⟩ := hf it (by simp)
    have e : ((i : Nat) : Int) - 1 - (i : Nat) = -1 := by omega
    rw [e] at st
    exact end_revL (I.ok.hd hc) st fun h' eb => ⟨rfl, I.turned (t' := s.toks) (fun b o hb e => eb b o hb e) f0 f1 f3 f4 f5⟩
  self := fun _ _ _ _ _ st h => iter_revL st h
theorem turn_revT {P : Program} {w : World} {K : PySem.W.Frag} {tg : Expr} (a it : Addr) (n : Nat) : Turn P w K tg (Itrt K a n) [it] it (fun i h => RevT h it a ((n : Int) - 1 - i)) where
  mem := by simp
  obj := fun i h st b hb => by
    have e : b = it := by simpa using hb
    subst e
    obtain ⟨o, e, c, d⟩ := st
    exact ⟨o, e, fun v z => by rw [d] at z; cases z⟩
  keep := fun i h h' st k => by
    obtain ⟨o, e, r⟩ := st
    exact ⟨o, k it (by simp) o e, r⟩
  item := by
    intro X hP hw hK hc i pins s σ H E I hf st hg
    subst hP hw hK
    obtain ⟨xs, hq, hn, hi⟩ := hg
    obtain ⟨its, rv, p, hz⟩ := I.tuple hq
    have hx : xs[n - 1 - i]? = some xs[n - 1 - i] := List.getElem?_eq_getElem (by omega)
    obtain ⟨u, hu, ru⟩ := rv.get hx
    obtain ⟨f0, f1, f2, f3, f4, f5⟩ := hf it (by simp)
    have e : (n : Int) - 1 - (i : Nat) = ((n - 1 - i : Nat) : Int) := by omega
    rw [e] at st
    have hlen := rv.length
    have hn63 := line63
    refine next_revT st p (x := u) (by simpa using hu) (by rw [List.size_toArray]; omega) fun h' st' sb => ?_
    have e2 : ((n - 1 - i : Nat) : Int) - 1 = (n : Int) - 1 - ((i + 1 : Nat) : Int) := by omega
    rw [e2] at st'
    have I1 : Inv X pins σ H { s with heap := h', toks := s.toks + 1 } := I.turned (t' := s.toks + 1) (fun b o hb e => (sb.2 b hb).trans e) f0 f1 f3 f4 f5
    obtain ⟨o, eo, c, d⟩ := id st'
    exact ⟨u, rfl, go_of (s := { s with heap := h', toks := s.toks + 1 }) eo c d (by decide) ⟨_, H, I1, ru, ⟨rfl, fun ys hy => by rw [I.tuple_inj hy hq]; exact hx⟩, st', fun b hb => (hf b hb).1⟩⟩
  done := by
    intro X hP hw hK hc i pins s σ H E I hf st hg
    subst hP hw hK hg
    obtain ⟨f0, f1, f2, f3, f4, f5⟩ := hf it (by simp)
    have e : ((i : Nat) : Int) - 1 - (i : Nat) = -1 := by omega
    rw [e] at st
    exact end_revT (I.ok.hd hc) st fun h' eb => ⟨rfl, I.turned (t' := s.toks) (fun b o hb e => eb b o hb e) f0 f1 f3 f4 f5⟩
  self := fun _ _ _ _ _ st h => iter_revT st h
section
variable {X : Cx} {tg : Expr}
def iRevL (K : PySem.W.Frag) (ta : TA) : TI := fun σ H R => ta σ H fun vs H1 => ∃ a xs, vs = [.ref a] ∧ Rd H1 a (.lst xs) ∧ R (Itrl K a xs.length) H1
def iRevT (K : PySem.W.Frag) (ta : TA) : TI := fun σ H R => ta σ H fun vs H1 => ∃ a xs, vs = [.ref a] ∧ SqT K H1 a xs ∧ R (Itrt K a xs.length) H1
theorem pi_revL (K : PySem.W.Frag) (hK : X.K = K) {a : Expr} {ta : TA} {p pos : Pos} (hg : Gl X "reversed") (hm : X.mg "reversed" = none) (ha : PA X [a] ta) (hs : starEach [a] X.env = [(false, eval a X.env)] := by rfl) :
    PI X tg (.Call (.Name "reversed" p) [a] [] pos) (iRevL K ta) := by
  subst hK
  intro pins s σ H R I h
  refine Call_ (ld_blt I hg hm PyProof.Rows.Boot.«reversed» (PyProof.Rows.callWith_type1 (thn (ha pos pins s σ H _ I h) fun us s1 ⟨vs, H1, I1, r1, q1⟩ => ?_) hs rfl))
  obtain ⟨l, xs, rfl, hq, q⟩ := q1
  obtain ⟨u, rfl, ru⟩ := vals1 r1
  cases ru
  obtain ⟨hz, its, n, rv, hl⟩ := (show ObjOk X.prog X.w H1 s1.heap l (.lst xs) from hq.ok I1.hok)
  have hlen : xs.length = its.length := rv.length
  refine call_rev_list hl fun h' hit hk => ?_
  have I2 : Inv X pins σ H1 { s1 with heap := h' } := I1.kept (t' := s1.toks) hk
  refine iter_revL hit ?_
  refine ⟨s1.heap.objs.size, [s1.heap.objs.size], _, _, H1, rfl, I2, turn_revL l _ xs.length, by simpa [hlen] using hit, fun b hb => ?_, q⟩
  have eb : b = s1.heap.objs.size := by simpa using hb
  subst eb
  exact I1.fpOk (Nat.le_refl _) (I1.hok.fresh (Nat.le_refl _))
theorem pi_revT (K : PySem.W.Frag) (hK : X.K = K) {a : Expr} {ta : TA} {p pos : Pos} (hg : Gl X "reversed") (hm : X.mg "reversed" = none) (ha : PA X [a] ta) (hs : starEach [a] X.env = [(false, eval a X.env)] := by rfl) :
    PI X tg (.Call (.Name "reversed" p) [a] [] pos) (iRevT K ta) := by
  subst hK
  intro pins s σ H R I h
  refine Call_ (ld_blt I hg hm PyProof.Rows.Boot.«reversed» (PyProof.Rows.callWith_type1 (thn (ha pos pins s σ H _ I h) fun us s1 ⟨vs, H1, I1, r1, q1⟩ => ?_) hs rfl))
  obtain ⟨l, xs, rfl, hq, q⟩ := q1
  obtain ⟨u, rfl, ru⟩ := vals1 r1
  cases ru
  obtain ⟨its, rv, pl, hz⟩ := I1.tuple hq
  have hlen : xs.length = its.length := rv.length
  have hn63 := line63
  refine call_rev_tuple pl (by rw [List.size_toArray]; omega) fun h' hit hk => ?_
  have I2 : Inv X pins σ H1 { s1 with heap := h', toks := s1.toks + 1 + 1 } := I1.kept (t' := s1.toks + 1 + 1) hk
  refine iter_revT hit ?_
  refine ⟨s1.heap.objs.size, [s1.heap.objs.size], _, _, H1, rfl, I2, turn_revT l _ xs.length, by simpa [hlen] using hit, fun b hb => ?_, q⟩
  have eb : b = s1.heap.objs.size := by simpa using hb
  subst eb
  exact I1.fpOk (Nat.le_refl _) (I1.hok.fresh (Nat.le_refl _))
end
theorem rev_at {xs : List V} {i : Nat} {x : V} (hi : i < xs.length) (h : xs[xs.length - 1 - i]? = some x) : xs.reverse[i]? = some x := by rw [List.getElem?_reverse hi]; exact h
theorem for_revL {K : PySem.W.Frag} {a : Addr} {xs : List V} {g : TG} {tb : TS} {D : Ends} {σ : St} {H : Hp} (Pv : Nat → St → Hp → Prop) (h0 : Pv 0 σ H) (hl : ∀ i σ H, i ≤ xs.length → Pv i σ H → SqL K H a xs)
    (hs : ∀ i x σ H, xs.reverse[i]? = some x → Pv i σ H → g x σ H fun σ2 H2 => tb { D with nx := Pv (i + 1), ct := Pv (i + 1), bk := D.nx } σ2 H2) (hd : ∀ σ H, Pv xs.length σ H → D.nx σ H) :
    ∃ W : Nat → Nat → St → Hp → Prop, (∃ m, W 0 m σ H) ∧ ∀ i m σ H, W i m σ H →
      ((Itrl K a xs.length).stop i H ∧ D.nx σ H) ∨ ((Itrl K a xs.length).go i H ∧ ∃ N : St → Hp → Prop, (∀ σ' H', N σ' H' → ∃ m', m' < m ∧ W (i + 1) m' σ' H') ∧ ∀ x H', (Itrl K a xs.length).yld i H x H' → g x σ H' fun σ2 H2 => tb { D with nx := N, ct := N, bk := D.nx } σ2 H2) := by
  refine ⟨fun i m σ H => m = xs.length - i ∧ i ≤ xs.length ∧ Pv i σ H, ⟨xs.length, by simp, Nat.zero_le _, h0⟩, ?_⟩
  rintro i m σ H ⟨rfl, hi, p⟩
  have q := hl i σ H hi p
  by_cases hlt : i < xs.length
  · refine .inr ⟨⟨xs, q, rfl, hlt⟩, Pv (i + 1), fun σ' H' p' => ⟨xs.length - (i + 1), by omega, rfl, hlt, p'⟩, fun x H' y => ?_⟩
    obtain ⟨e, y⟩ := y
    subst e
    exact hs i x σ _ (rev_at hlt (y xs q)) p
  · have e : i = xs.length := by omega
    subst e
    exact .inl ⟨rfl, hd σ H p⟩
theorem for_revT {K : PySem.W.Frag} {a : Addr} {xs : List V} {g : TG} {tb : TS} {D : Ends} {σ : St} {H : Hp} (Pv : Nat → St → Hp → Prop) (h0 : Pv 0 σ H) (hl : ∀ i σ H, i ≤ xs.length → Pv i σ H → SqT K H a xs)
    (hs : ∀ i x σ H, xs.reverse[i]? = some x → Pv i σ H → g x σ H fun σ2 H2 => tb { D with nx := Pv (i + 1), ct := Pv (i + 1), bk := D.nx } σ2 H2) (hd : ∀ σ H, Pv xs.length σ H → D.nx σ H) :
    ∃ W : Nat → Nat → St → Hp → Prop, (∃ m, W 0 m σ H) ∧ ∀ i m σ H, W i m σ H →
      ((Itrt K a xs.length).stop i H ∧ D.nx σ H) ∨ ((Itrt K a xs.length).go i H ∧ ∃ N : St → Hp → Prop, (∀ σ' H', N σ' H' → ∃ m', m' < m ∧ W (i + 1) m' σ' H') ∧ ∀ x H', (Itrt K a xs.length).yld i H x H' → g x σ H' fun σ2 H2 => tb { D with nx := N, ct := N, bk := D.nx } σ2 H2) := by
  refine ⟨fun i m σ H => m = xs.length - i ∧ i ≤ xs.length ∧ Pv i σ H, ⟨xs.length, by simp, Nat.zero_le _, h0⟩, ?_⟩
  rintro i m σ H ⟨rfl, hi, p⟩
  have q := hl i σ H hi p
  by_cases hlt : i < xs.length
  · refine .inr ⟨⟨xs, q, rfl, hlt⟩, Pv (i + 1), fun σ' H' p' => ⟨xs.length - (i + 1), by omega, rfl, hlt, p'⟩, fun x H' y => ?_⟩
    obtain ⟨e, y⟩ := y
    subst e
    exact hs i x σ _ (rev_at hlt (y xs q)) p
  · have e : i = xs.length := by omega
    subst e
    exact .inl ⟨rfl, hd σ H p⟩

def tListRev (ta : TA) : TE := fun σ H Q => ta σ H fun vs H1 => ∃ a xs, vs = [.ref a] ∧ Rd H1 a (.lst xs) ∧ ∀ l, H1 l = none → Q (.ref l) (upd H1 l (.lst xs.reverse))
theorem pe_list_rev {X : Cx} {a : Expr} {ta : TA} {p p2 pos pos2 : Pos} (hc : X.calm = true) (hg : Gl X "list") (hm : X.mg "list" = none) (hg2 : Gl X "reversed") (hm2 : X.mg "reversed" = none) (ha : PA X [a] ta)
    (hs : starEach [.Call (.Name "reversed" p2) [a] [] pos2] X.env = [(false, eval (.Call (.Name "reversed" p2) [a] [] pos2) X.env)] := by rfl) (hs2 : starEach [a] X.env = [(false, eval a X.env)] := by rfl) :
    PE X (.Call (.Name "list" p) [.Call (.Name "reversed" p2) [a] [] pos2] [] pos) (tListRev ta) := by
  intro pins s σ H Q I h
  refine wpAny_Call_Name_kw (ld_blt I hg hm PyProof.Rows.Boot.«list» ?_)
  refine PyProof.Rows.callWith_type1 ?_ hs rfl
  rw [hs]
  show wpAny _ _ (spliced ((false, eval (.Call (.Name "reversed" p2) [a] [] pos2) X.env) :: [])) _ _ s
  refine Calls.spliced_cons (wpAny_Call_Name_kw (ld_blt I hg2 hm2 PyProof.Rows.Boot.«reversed» (PyProof.Rows.callWith_type1 (thn (ha pos2 pins s σ H _ I h) fun us s1 ⟨vs, H1, I1, r1, q1⟩ => ?_) hs2 rfl)))
  obtain ⟨l, xs, rfl, hq, q⟩ := q1
  obtain ⟨u, rfl, ru⟩ := vals1 r1
  cases ru
  obtain ⟨hz, its, n, rv, hl⟩ := (show ObjOk X.prog X.w H1 s1.heap l (.lst xs) from hq.ok I1.hok)
  have hlen : xs.length = its.length := rv.length
  refine call_rev_list hl fun h1 hit hk => Calls.spliced_nil ?_
  refine call_list_revL (s := { s1 with heap := h1 }) (items := its.toArray) (I1.ok.hd hc) hit ⟨_, hk _ _ hl, rfl, n, rfl⟩ (Nat.ne_of_lt (Heap.lt_size hl)) (by rw [List.size_toArray]; omega) fun h' tk acc' c' hk' hS hit' => ?_
  have rv' : Vals xs.reverse acc'.toList := by
    refine vals_of (by
      have e1 : acc'.toList.length = its.length := (Array.length_toList.trans hit'.1).trans (List.size_toArray ..)
      rw [List.length_reverse, hlen, e1]) fun j x u h1 h2 => ?_
    have h3 := hit'.2 j u (by rw [← Array.getElem?_toList]; exact h2)
    have hj : j < xs.length := by
      have := (List.getElem?_eq_some_iff.mp h1).1
      rwa [List.length_reverse] at this
    rw [List.getElem?_reverse hj] at h1
    obtain ⟨u', e1, r'⟩ := rv.get h1
    rw [List.getElem?_toArray, List.size_toArray, ← hlen] at h3
    rw [h3] at e1
    cases e1
    exact r'
  have le : s1.heap.objs.size ≤ h1.objs.size := by
    obtain ⟨o, ho, _⟩ := hit
    exact Nat.le_of_lt (Heap.lt_size ho)
  have kk : ∀ b u, s1.heap.get? b = some u → h'.get? b = some u := fun b u e => hk' b u (Nat.ne_of_lt (Heap.lt_size e)) (hk b u e)
  exact ⟨.ref h1.objs.size, _, I1.laid (t' := tk) kk le (show ObjOk X.prog X.w _ h' _ (.lst _) from ⟨by rw [List.length_reverse]; exact hz, acc'.toList, c', rv', by simpa using hS⟩), rfl, q _ (I1.hok.fresh le)⟩
end L2


set_option linter.all false
set_option maxRecDepth 100000
set_option maxHeartbeats 4000000
namespace FR
open PySem L2

inductive RowsG (g : Gram) : List Str → List Nat → Prop
  | nil : RowsG g [] []
  | cons {ns : List Str} {k : Nat} {r : Rule} {row : List Nat} : g[k]? = some r → RowsG g (unQ r.2.1 ++ ns) row → RowsG g (r.1 :: ns) (k :: row)
theorem RowsG.trace {g : Gram} {ns : List Str} {row : List Nat} (h : RowsG g ns row) : ∃ f : Nat → List Str, f 0 = ns ∧ f row.length = [] ∧ ∀ i k, row[i]? = some k → ∃ r ms, g[k]? = some r ∧ f i = r.1 :: ms ∧ f (i + 1) = unQ r.2.1 ++ ms := by
  induction h with
  | nil => exact ⟨fun _ => [], rfl, rfl, fun i k e => by cases e⟩
  | @cons ns k r row e h ih =>
    obtain ⟨f, f0, fn, fs⟩ := ih
    refine ⟨fun i => match i with | 0 => r.1 :: ns | i + 1 => f i, rfl, fn, fun i k' e' => ?_⟩
    cases i with
    | zero =>
      cases e'
      exact ⟨r, ns, e, rfl, f0⟩
    | succ i => exact fs i k' e'

structure EnOk (g : Gram) (e : Sz) : Prop where
  nd : (e.map (·.1)).Nodup
  ent : ∀ (i : Nat) (z : Str) (k : Int), e[i]? = some (z, k) → ∃ r, 0 ≤ k ∧ g[k.toNat]? = some r ∧ r.1 = z ∧ ∀ p ∈ r.2.1, isQ p = false → p ∈ (e.take i).map (·.1)
def InK (e : Sz) (r : Rule) : Prop := ∀ p ∈ r.2.1, isQ p = false → p ∈ e.map (·.1)
def ClosedG (g : Gram) (e : Sz) : Prop := ∀ r ∈ g, InK e r → r.1 ∈ e.map (·.1)
theorem EnOk.nil (g : Gram) : EnOk g [] := ⟨List.nodup_nil, fun i z k e => by cases e⟩
theorem EnOk.snoc {g : Gram} {e : Sz} (h : EnOk g e) {r : Rule} {k : Nat} (hr : g[k]? = some r) (hin : InK e r) (hn : ¬ r.1 ∈ e.map (·.1)) : EnOk g (e ++ [(r.1, (k : Int))]) := by
  refine ⟨?_, fun i z k' he => ?_⟩
  · rw [List.map_append]
    exact nd_snoc h.nd hn
  · by_cases hi : i < e.length
    · rw [List.getElem?_append_left hi] at he
      obtain ⟨r', h1, h2, h3, h4⟩ := h.ent i z k' he
      refine ⟨r', h1, h2, h3, fun p hp hq => ?_⟩
      rw [List.take_append_of_le_length (by omega)]
      exact h4 p hp hq
    · have hi2 : i = e.length := by
        have := (List.getElem?_eq_some_iff.mp he).1
        rw [List.length_append] at this
        simp at this
        omega
      subst hi2
      rw [List.getElem?_append_right (Nat.le_refl _), Nat.sub_self] at he
      cases he
      refine ⟨r, Int.natCast_nonneg _, by rw [Int.toNat_natCast]; exact hr, rfl, fun p hp hq => ?_⟩
      rw [List.take_append_of_le_length (Nat.le_refl _), List.take_length]
      exact hin p hp hq

def rank : Sz → Str → Nat
  | [], _ => 0
  | p :: s, z => if p.1 = z then 0 else rank s z + 1
def wt (e : Sz) (z : Str) : Nat := 7 ^ (rank e z + 1)
def wts (e : Sz) (zs : List Str) : Nat := (zs.map (wt e)).sum
theorem unQ_len (ps : List Str) : (unQ ps).length ≤ ps.length := List.length_filter_le _ _
theorem unQ_mem {ps : List Str} {p : Str} : p ∈ unQ ps ↔ p ∈ ps ∧ isQ p = false := by
  unfold unQ
  rw [List.mem_filter]
  constructor
  · rintro ⟨a, b⟩
    exact ⟨a, by simpa using b⟩
  · rintro ⟨a, b⟩
    exact ⟨a, by simp [b]⟩

def openB (g : Gram) (e : Sz) (z : Str) (k : Nat) : Bool := match g[k]? with
  | none => false
  | some r => decide (r.1 = z) && r.2.1.all fun p => isQ p || (look e p).isSome
def openL (g : Gram) (e : Sz) (z : Str) (n : Nat) : List Nat := (List.range n).filter (openB g e z)
theorem SzOk.rev {g : Gram} {s : Sz} (h : SzOk g.reverse 0 s) : SzOk g 0 s := ⟨h.nd, h.pos, h.bd, fun z v e => by obtain ⟨r, hr, q⟩ := h.hd z v e; exact ⟨r, List.mem_reverse.mp hr, q⟩⟩
theorem Fix.rev {g : Gram} {s : Sz} (h : Fix g.reverse 0 s) : Fix g 0 s := fun r hr => h r (List.mem_reverse.mpr hr)
end FR


set_option linter.all false
set_option maxRecDepth 100000
set_option maxHeartbeats 4000000
namespace L2
open PySem PySem.Spec PyProof.Rows
section
variable {prog : Program} {w : World} {A : Around} {E : Value → Shared → Prop} {s : Shared}
theorem stop_ref {α : Type} {Q : α → Shared → Prop} {E' : Value → Shared → Prop} (hh : A.handled = none) (h : ∀ e h', (∀ b o, s.heap.get? b = some o → h'.get? b = some o) → (∃ o, h'.get? e = some o ∧ o.cls = .type "StopIteration") → E' (.ref e) { s with heap := h' }) :
    wpAny (model prog w) A (Builtin.SmallTypes.stopIteration : Sem α) Q E' s := by
  unfold Builtin.SmallTypes.stopIteration
  refine wpAny_bind ?_
  simp only [newExc, newTuple]
  refine wpAny_bind (wpAny_newObj_type (wpAny_bind (m := firstArgMember _ _) (wpAny_of_eq (a := Value.none) (by first | rfl | (simp only [firstArgMember]; rfl)) (wpAny_newObj_type ?_ (by size_fits)))) (by size_fits))
  simp only [raiseNew]
  refine wpAny_bind (wpAny_handled ?_)
  rw [hh]
  refine wpAny_bind (wpAny_pure (wpAny_throw (h _ _ (fun b o e => Heap.get?_push_of_some _ (Heap.get?_push_of_some _ e)) ?_)))
  exact ⟨_, Heap.get?_push_size _ rfl, rfl⟩
theorem nextOf_tup {it t : Addr} {i : Nat} {items : Array Value} {x : Value} {Q : Value → Shared → Prop} (hit : s.heap.IsTupleIter it t i) (ht : IsTup s.heap t items) (hx : items[i]? = some x)
    (hQ : ∀ h', h'.IsTupleIter it t (i + 1) → Heap.SameBut it s.heap h' → Q x { s with heap := h' }) : wpAny (model prog w) A (Builtin.SmallTypes.nextOf (.ref it)) Q E s := by
  obtain ⟨o, ho, hc, hd⟩ := id hit
  obtain ⟨ol, hol, _, nl, hdl⟩ := ht
  unfold Builtin.SmallTypes.nextOf
  refine wpAny_bind (wpAny_callSpecial?_slot (name := Str.ofString "__next__") hit.typeIs F.slot_tuple_iterator_next (wpAny_call_entry F.slot_tuple_iterator_next hit.typeIs F.entry_tuple_iterator_next ?_ (F.args_tuple_iterator_next_1 _)))
  refine (show wpAny _ _ (field (.ref it) 0 >>= _) _ _ s from wpAny_bind (wpAny_field ho hd (x := .ref t) rfl ?_))
  refine (show wpAny _ _ (if (Value.ref t == Value.none) = true then _ else _) _ _ s from ?_)
  rw [if_neg (show ¬ (Value.ref t == Value.none) = true from Bool.false_ne_true)]
  refine (show wpAny _ _ (field (.ref it) 1 >>= _) _ _ s from wpAny_bind (wpAny_field ho hd (x := .int i 0) rfl ?_))
  refine (show wpAny _ _ (seqItems? (.ref t) >>= _) _ _ s from wpAny_bind (wpAny_seqItems hol hdl ?_))
  simp only [hx, Int.toNat_natCast]
  exact wpAny_bind (wpAny_setField ho hd (by simp) (wpAny_pure ⟨_, rfl, wpAny_pure (hQ _ ⟨_, Heap.get?_update_self _ ho (Obj.isFreed_of_fields (Obj.data_mapFields hd _)), (Obj.cls_mapFields ..).trans hc, by rw [Obj.data_mapFields hd]; simp [rawInt]⟩ (Heap.SameBut.update ..))⟩))
theorem nextOf_tup_end {it t : Addr} {i : Nat} {items : Array Value} {Q : Value → Shared → Prop} (hh : A.handled = none) (hit : s.heap.IsTupleIter it t i) (ht : IsTup s.heap t items) (hx : items[i]? = none)
    (hE : ∀ h' e, Heap.ExtBut it s.heap h' → (∃ o, h'.get? e = some o ∧ o.cls = .type "StopIteration") → E (.ref e) { s with heap := h' }) : wpAny (model prog w) A (Builtin.SmallTypes.nextOf (.ref it)) Q E s := by
  obtain ⟨o, ho, hc, hd⟩ := id hit
  obtain ⟨ol, hol, _, nl, hdl⟩ := ht
  unfold Builtin.SmallTypes.nextOf
  refine wpAny_bind (wpAny_callSpecial?_slot (name := Str.ofString "__next__") hit.typeIs F.slot_tuple_iterator_next (wpAny_call_entry F.slot_tuple_iterator_next hit.typeIs F.entry_tuple_iterator_next ?_ (F.args_tuple_iterator_next_1 _)))
  refine (show wpAny _ _ (field (.ref it) 0 >>= _) _ _ s from wpAny_bind (wpAny_field ho hd (x := .ref t) rfl ?_))
  refine (show wpAny _ _ (if (Value.ref t == Value.none) = true then _ else _) _ _ s from ?_)
  rw [if_neg (show ¬ (Value.ref t == Value.none) = true from Bool.false_ne_true)]
  refine (show wpAny _ _ (field (.ref it) 1 >>= _) _ _ s from wpAny_bind (wpAny_field ho hd (x := .int i 0) rfl ?_))
  refine (show wpAny _ _ (seqItems? (.ref t) >>= _) _ _ s from wpAny_bind (wpAny_seqItems hol hdl ?_))
  simp only [hx, Int.toNat_natCast]
  refine wpAny_bind (wpAny_rule (wpAny_bind (wpAny_setField ho hd (by simp) (stop_ref (A := A.in1) hh fun e h' k he => hE h' e (fun b o' hb q => k b o' ?_) he))))
  exact ((Heap.SameBut.update ..).2 b hb).trans q
theorem meets_enum_tup (l : Addr) (items : Array Value) (o : Obj) (n : Nat) (hc : o.cls = .type "tuple") (hd : o.data = .seq items n) :
    Meets (Builtin.«enumerate.__new__» ⟨[.type "enumerate", .ref l], []⟩) (fun _ R s => s.heap.get? l = some o ∧
      R (.ok (.ret (.ref (s.heap.push { cls := .type "tuple_iterator", data := .fields #[.ref l, .int 0 0] }).objs.size)))
        { s with heap := (s.heap.push { cls := .type "tuple_iterator", data := .fields #[.ref l, .int 0 0] }).push { cls := .type "enumerate", data := .fields #[.none, .bool false, .ref s.heap.objs.size, rawInt 0, .none, .none] } }) :=
  .of_wp fun prog w A R s h => by
    obtain ⟨hp, g, d, tk, os⟩ := s
    obtain ⟨hl, h⟩ := h
    have hsub := sub_enumerate
    have hL : Heap.IsTuple (Shared.heap ⟨hp, g, d, tk, os⟩) l items := ⟨o, hl, hc, n, hd⟩
    wp_walk using wpAny_loadPart' hl
    refine wpAny_stack_any fun st => wpAny_pure ?_
    split
    · rename_i c _ _ _ _ _
      cases (c == Value.type "enumerate") <;> (wp_walk using wpAny_loadPart' hl, wpAny_pyIter_tuple hL; exact ⟨_, rfl, h⟩)
    · wp_walk using wpAny_loadPart' hl, wpAny_pyIter_tuple hL
      exact ⟨_, rfl, h⟩
theorem draws_tup (hh : A.handled = none) (it l : Addr) (hne : l ≠ it) (items : Array Value) : Draws prog w A it [it, l] items.size (fun i v => items[i]? = some v) (fun i h => h.IsTupleIter it l i ∧ IsTup h l items) where
  live := fun _ _ st => let ⟨o, ho, _⟩ := st.1; ⟨o, ho⟩
  frame := fun _ _ _ st hk => by
    obtain ⟨⟨o, a, b⟩, ⟨o2, a2, b2⟩⟩ := st
    exact ⟨⟨o, hk it (by simp) o a, b⟩, ⟨o2, hk l (by simp) o2 a2, b2⟩⟩
  item := fun i s Q E hi st hQ => by
    refine nextOf_tup st.1 st.2 (x := items[i]) (by simp [hi]) fun h' hit' hs' => ?_
    obtain ⟨o2, a2, b2⟩ := st.2
    exact hQ _ h' s.toks (by simp [hi]) ⟨hit', o2, (hs'.2 l hne).trans a2, b2⟩ hs'
  done := fun s Q E st hE => nextOf_tup_end hh st.1 st.2 (by simp) hE
theorem call_enum_tup {l : Addr} {items : Array Value} {Q : Value → Shared → Prop} (hL : IsTup s.heap l items)
    (h : ∀ h', IsEnum h' (s.heap.objs.size + 1) s.heap.objs.size 0 .none → h'.IsTupleIter s.heap.objs.size l 0 → (∀ b o, s.heap.get? b = some o → h'.get? b = some o) → Q (.ref (s.heap.objs.size + 1)) { s with heap := h' }) :
    wpAny (model prog w) A (call (.type "enumerate") [.ref l]) Q E s := by
  obtain ⟨o, hl, hc, n, hd⟩ := hL
  refine callType_new F.called_enumerate (by decide) (F.typeCall_enumerate_1 _) (F.newCall_enumerate_1 _) (fun obj => F.args_object_init_2 obj _) F.entry_enumerate_new (meets_enum_tup l items o n hc hd) ⟨hl, ?_⟩
  have hz : (s.heap.push { cls := .type "tuple_iterator", data := .fields #[.ref l, .int 0 0] }).objs.size = s.heap.objs.size + 1 := Heap.size_push ..
  show _ ∧ _
  rw [hz]
  have he : IsEnum ((s.heap.push { cls := .type "tuple_iterator", data := .fields #[.ref l, .int 0 0] }).push { cls := .type "enumerate", data := .fields #[.none, .bool false, .ref s.heap.objs.size, rawInt 0, .none, .none] }) (s.heap.objs.size + 1) s.heap.objs.size 0 .none := by
    have := Heap.get?_push_size (s.heap.push { cls := .type "tuple_iterator", data := .fields #[.ref l, .int 0 0] }) (o := { cls := .type "enumerate", data := .fields #[.none, .bool false, .ref s.heap.objs.size, rawInt 0, .none, .none] }) rfl
    rw [hz] at this
    exact this
  exact ⟨⟨_, he, rfl⟩, h _ he ⟨_, Heap.get?_push_of_some _ (Heap.get?_push_size _ rfl), rfl, rfl⟩ fun b o x => Heap.get?_push_of_some _ (Heap.get?_push_of_some _ x)⟩
end

def IteT (K : PySem.W.Frag) (a : Addr) : It :=
  ⟨fun i H => ∃ xs x, SqT K H a xs ∧ xs[i]? = some x, fun i H v H' => ∃ T, H T = none ∧ v = .ref T ∧ ∀ xs, SqT K H a xs → ∃ x, xs[i]? = some x ∧ H' = upd H T (.tup [.int i, x]), fun i H => ∃ xs, SqT K H a xs ∧ xs.length = i⟩
theorem turn_enumT {P : Program} {w : World} {K : PySem.W.Frag} {elts : List Expr} {k : Nat} {pos : Pos} (a e it : Addr) :
    Turn P w K (.Tuple elts k pos) (IteT K a) [e, it] e (fun i h => (∃ old, IsEnum h e it (i : Nat) old) ∧ h.IsTupleIter it a i ∧ e ≠ it ∧ a ≠ e ∧ a ≠ it) where
  mem := by simp
  obj := fun i h st b hb => by
    obtain ⟨⟨old, he⟩, ⟨o, eo, c, d⟩, _⟩ := st
    rcases List.mem_cons.mp hb with rfl | hb
    · exact ⟨_, he, fun v z => by cases z⟩
    · have eb : b = it := by simpa using hb
      subst eb
      exact ⟨o, eo, fun v z => by rw [d] at z; cases z⟩
  keep := fun i h h' st k => by
    obtain ⟨⟨old, he⟩, ⟨o, eo, r⟩, hne⟩ := st
    exact ⟨⟨old, k e (by simp) _ he⟩, ⟨o, k it (by simp) o eo, r⟩, hne⟩
  item := by
    intro X hP hw hK hc i pins s σ H E I hf st hg
    subst hP hw hK
    obtain ⟨⟨old, he⟩, hit, hne, hae, hai⟩ := st
    obtain ⟨xs, x, hq, hx⟩ := hg
    obtain ⟨its, rv, p, hz⟩ := I.tuple hq
    obtain ⟨u, hu, ru⟩ := rv.get hx
    have hlt : i < its.toArray.size := by
      rw [List.size_toArray]
      exact (List.getElem?_eq_some_iff.mp hu).1
    have nef : e ∉ [it, a] := by
      simp only [List.mem_cons, List.not_mem_nil, or_false, not_or]
      exact ⟨hne, hae.symm⟩
    refine wpAny_pyNext_enum_itemD (draws_tup (prog := X.prog) (w := X.w) (A := X.A.in1) (I.ok.hd hc) it a hai its.toArray) he ⟨hit, p⟩ hlt hne nef fun u' h' tk hPu ho hst hT hsz hk => ?_
    have eu : u' = u := by
      have h1 : its[i]? = some u' := by simpa using hPu
      rw [hu] at h1
      exact (Option.some.inj h1).symm
    subst eu
    refine ⟨_, rfl, wpAny_letOwnedTupleGo_enum (s := { s with heap := h', toks := tk + 1 }) ho fun h'' he' hs' => ?_⟩
    have hltE : e < s.heap.objs.size := Heap.lt_size he
    have hTe : s.heap.objs.size ≠ e := Nat.ne_of_gt hltE
    have kk : ∀ b o, b ∉ [e, it] → s.heap.get? b = some o → h''.get? b = some o := fun b o hb q => by
      have h1 : b ≠ e := fun z => hb (by simp [z])
      have h2 : b ≠ it := fun z => hb (by simp [z])
      exact (hs'.2 b h1).trans (hk b o h1 h2 q)
    have I1 : Inv X pins σ H { s with heap := h'', toks := tk + 1 } := I.turns kk hf
    have hT' : h''.get? s.heap.objs.size = some { cls := .type "tuple", data := .seq #[.int i tk, u'] } := (hs'.2 _ hTe).trans hT
    have hfr : H s.heap.objs.size = none := I.hok.fresh (Nat.le_refl _)
    have I2 := I1.trackT (T := s.heap.objs.size) (xs := [.int i, x]) (its := [.int i tk, u']) hfr ⟨_, hT', rfl, _, rfl⟩ (.cons ⟨_, rfl⟩ (.cons ru .nil)) (by show 2 ≤ sizeLine; rw [sizeLine_eq]; decide)
      (fun o q => absurd (Heap.lt_size q) (Nat.not_lt.mpr I.sz)) fun p hp z => absurd (Heap.lt_size (I.pin p hp).1) (by rw [z]; exact Nat.lt_irrefl _)
    obtain ⟨o3, e3, r3⟩ := hst.1
    refine ⟨.ref s.heap.objs.size, _, I2, rfl, ⟨_, hfr, rfl, fun ys hy => ⟨x, by rw [I.tuple_inj hy hq]; exact hx, rfl⟩⟩, ⟨⟨_, by simpa using he'⟩, ⟨o3, (hs'.2 it hne.symm).trans e3, r3⟩, hne, hae, hai⟩, fun b hb => ?_⟩
    obtain ⟨o, eo, _⟩ : ∃ o, s.heap.get? b = some o ∧ True := by
      rcases List.mem_cons.mp hb with rfl | hb
      · exact ⟨_, he, trivial⟩
      · have eb : b = it := by simpa using hb
        subst eb
        obtain ⟨o, eo, _⟩ := hit
        exact ⟨o, eo, trivial⟩
    rw [upd_ne (Nat.ne_of_lt (Heap.lt_size eo))]
    exact (hf b hb).1
  done := by
    intro X hP hw hK hc i pins s σ H E I hf st hg
    subst hP hw hK
    obtain ⟨⟨old, he⟩, hit, hne, hae, hai⟩ := st
    obtain ⟨xs, hq, hx⟩ := hg
    obtain ⟨its, rv, p, hz⟩ := I.tuple hq
    have hl := rv.length
    have ei : i = its.toArray.size := by rw [List.size_toArray]; omega
    subst ei
    exact wpAny_pyNext_enum_endD (draws_tup (prog := X.prog) (w := X.w) (A := X.A.in1) (I.ok.hd hc) it a hai its.toArray) he ⟨hit, p⟩ fun h' eb => ⟨rfl, I.turns (t' := s.toks) (fun b o hb q => eb b o (fun z => hb (by simp [z])) q) hf⟩
  self := fun _ _ _ _ _ st h => by
    obtain ⟨⟨old, he⟩, _⟩ := st
    exact wpAny_pyIter_enum he h
section
variable {X : Cx} {elts : List Expr} {k : Nat} {tpos : Pos}
def iEnumT (K : PySem.W.Frag) (ta : TA) : TI := fun σ H R => ta σ H fun vs H1 => ∃ a, vs = [.ref a] ∧ (∃ xs, SqT K H1 a xs) ∧ R (IteT K a) H1
theorem pi_enumT (K : PySem.W.Frag) (hK : X.K = K) {a : Expr} {ta : TA} {p pos : Pos} (hg : Gl X "enumerate") (hm : X.mg "enumerate" = none) (ha : PA X [a] ta) (hs : starEach [a] X.env = [(false, eval a X.env)] := by rfl) :
    PI X (.Tuple elts k tpos) (.Call (.Name "enumerate" p) [a] [] pos) (iEnumT K ta) := by
  subst hK
  intro pins s σ H R I h
  refine Call_ (ld_blt I hg hm PyProof.Rows.Boot.«enumerate» (PyProof.Rows.callWith_type1 (thn (ha pos pins s σ H _ I h) fun us s1 ⟨vs, H1, I1, r1, q1⟩ => ?_) hs rfl))
  obtain ⟨l, rfl, ⟨xs, hq⟩, q⟩ := q1
  obtain ⟨u, rfl, ru⟩ := vals1 r1
  cases ru
  obtain ⟨its, rv, pl, hz⟩ := I1.tuple hq
  have hll : l < s1.heap.objs.size := pl.lt
  refine call_enum_tup pl fun h' he hit hk => ?_
  have I2 : Inv X pins σ H1 { s1 with heap := h' } := I1.kept (t' := s1.toks) hk
  refine wpAny_pyIter_enum he ?_
  refine ⟨s1.heap.objs.size + 1, [s1.heap.objs.size + 1, s1.heap.objs.size], _, _, H1, rfl, I2, turn_enumT l _ _, ⟨⟨_, by simpa using he⟩, hit, Nat.succ_ne_self _, Nat.ne_of_lt (Nat.lt_succ_of_lt hll), Nat.ne_of_lt hll⟩, fun b hb => ?_, q⟩
  rcases List.mem_cons.mp hb with rfl | hb
  · exact I1.fpOk (Nat.le_succ _) (I1.hok.fresh (Nat.le_succ _))
  · have eb : b = s1.heap.objs.size := by simpa using hb
    subst eb
    exact I1.fpOk (Nat.le_refl _) (I1.hok.fresh (Nat.le_refl _))
end
theorem for_enum {K : PySem.W.Frag} {a : Addr} {xs : List V} {g : TG} {tb : TS} {D : Ends} {σ : St} {H : Hp} (Pv : Nat → St → Hp → Prop) (h0 : Pv 0 σ H) (hl : ∀ i σ H, i ≤ xs.length → Pv i σ H → SqL K H a xs)
    (hs : ∀ i x T σ H, xs[i]? = some x → H T = none → Pv i σ H → g (.ref T) σ (upd H T (.tup [.int (i : Nat), x])) fun σ2 H2 => tb { D with nx := Pv (i + 1), ct := Pv (i + 1), bk := D.nx } σ2 H2) (hd : ∀ σ H, Pv xs.length σ H → D.nx σ H) :
    ∃ W : Nat → Nat → St → Hp → Prop, (∃ m, W 0 m σ H) ∧ ∀ i m σ H, W i m σ H →
      ((Ite K a).stop i H ∧ D.nx σ H) ∨ ((Ite K a).go i H ∧ ∃ N : St → Hp → Prop, (∀ σ' H', N σ' H' → ∃ m', m' < m ∧ W (i + 1) m' σ' H') ∧ ∀ x H', (Ite K a).yld i H x H' → g x σ H' fun σ2 H2 => tb { D with nx := N, ct := N, bk := D.nx } σ2 H2) := by
  refine ⟨fun i m σ H => m = xs.length - i ∧ i ≤ xs.length ∧ Pv i σ H, ⟨xs.length, by simp, Nat.zero_le _, h0⟩, ?_⟩
  rintro i m σ H ⟨rfl, hi, p⟩
  have q := hl i σ H hi p
  by_cases hlt : i < xs.length
  · refine .inr ⟨⟨xs, xs[i], q, by simp [hlt]⟩, Pv (i + 1), fun σ' H' p' => ⟨xs.length - (i + 1), by omega, rfl, hlt, p'⟩, fun x H' y => ?_⟩
    obtain ⟨T, hT, rfl, k⟩ := y
    obtain ⟨x, hx, rfl⟩ := k xs q
    exact hs i x T σ H hx hT p
  · have e : i = xs.length := by omega
    subst e
    exact .inl ⟨⟨xs, q, Nat.le_refl _⟩, hd σ H p⟩
theorem for_enumT {K : PySem.W.Frag} {a : Addr} {xs : List V} {g : TG} {tb : TS} {D : Ends} {σ : St} {H : Hp} (Pv : Nat → St → Hp → Prop) (h0 : Pv 0 σ H) (hl : ∀ i σ H, i ≤ xs.length → Pv i σ H → SqT K H a xs)
    (hs : ∀ i x T σ H, xs[i]? = some x → H T = none → Pv i σ H → g (.ref T) σ (upd H T (.tup [.int (i : Nat), x])) fun σ2 H2 => tb { D with nx := Pv (i + 1), ct := Pv (i + 1), bk := D.nx } σ2 H2) (hd : ∀ σ H, Pv xs.length σ H → D.nx σ H) :
    ∃ W : Nat → Nat → St → Hp → Prop, (∃ m, W 0 m σ H) ∧ ∀ i m σ H, W i m σ H →
      ((IteT K a).stop i H ∧ D.nx σ H) ∨ ((IteT K a).go i H ∧ ∃ N : St → Hp → Prop, (∀ σ' H', N σ' H' → ∃ m', m' < m ∧ W (i + 1) m' σ' H') ∧ ∀ x H', (IteT K a).yld i H x H' → g x σ H' fun σ2 H2 => tb { D with nx := N, ct := N, bk := D.nx } σ2 H2) := by
  refine ⟨fun i m σ H => m = xs.length - i ∧ i ≤ xs.length ∧ Pv i σ H, ⟨xs.length, by simp, Nat.zero_le _, h0⟩, ?_⟩
  rintro i m σ H ⟨rfl, hi, p⟩
  have q := hl i σ H hi p
  by_cases hlt : i < xs.length
  · refine .inr ⟨⟨xs, xs[i], q, by simp [hlt]⟩, Pv (i + 1), fun σ' H' p' => ⟨xs.length - (i + 1), by omega, rfl, hlt, p'⟩, fun x H' y => ?_⟩
    obtain ⟨T, hT, rfl, k⟩ := y
    obtain ⟨x, hx, rfl⟩ := k xs q
    exact hs i x T σ H hx hT p
  · have e : i = xs.length := by omega
    subst e
    exact .inl ⟨⟨xs, q, rfl⟩, hd σ H p⟩
end L2


set_option linter.all false
set_option maxRecDepth 100000
set_option maxHeartbeats 4000000
namespace FR
open PySem L2
def Sized (s : Sz) (r : Rule) : Prop := ∃ m, sizeR s 0 r.2.1 = some m
inductive Reach (g : Gram) (s : Sz) (z0 : Str) : Str → Prop
  | start : Reach g s z0 z0
  | step {r : Rule} {p : Str} : r ∈ g → Sized s r → Reach g s z0 r.1 → p ∈ r.2.1 → isQ p = false → Reach g s z0 p
def Need (g : Gram) (s : Sz) (k : Nat) : Prop := ∃ r r0 rest, g = r0 :: rest ∧ g[k]? = some r ∧ Sized s r ∧ Reach g s r0.1 r.1

def DownOk (s o : Sz) (r : Rule) (p : Str) : Prop := ∀ m h sp, sizeR s 0 r.2.1 = some m → look o r.1 = some h → isQ p = false → look s p = some sp → ∃ v, look o p = some v ∧ v ≤ h + m - sp
structure WyOk (g : Gram) (s : Sz) (z0 : Str) (o : Sz) : Prop where
  nd : (o.map (·.1)).Nodup
  has : look o z0 = some 0
  nn : ∀ z v, look o z = some v → 0 ≤ v
  bd : ∀ z v, look o z = some v → v ≤ o.length * bnd 0 61
  rch : ∀ z v, look o z = some v → Reach g s z0 z
def DownFix (g : Gram) (s o : Sz) : Prop := ∀ r ∈ g, ∀ p ∈ r.2.1, DownOk s o r p
theorem sized_le {g : Gram} {s : Sz} (hg : okGram g = true) (h : SzOk g 0 s) {r : Rule} (hr : r ∈ g) {m : Int} (e : sizeR s 0 r.2.1 = some m) : 1 ≤ m ∧ m ≤ bnd 0 61 := by
  have hg60 : g.length ≤ 60 := by
    unfold okGram at hg
    rw [Bool.and_eq_true] at hg
    exact of_decide_eq_true hg.1
  have hr6 : r.2.1.length ≤ 6 := by
    unfold okGram at hg
    rw [Bool.and_eq_true] at hg
    have := List.all_eq_true.mp hg.2 r hr
    unfold okRule at this
    simp only [Bool.and_eq_true, decide_eq_true_eq] at this
    exact this.2.1.1
  have h1 := (sizeG_part h.pos e).1
  have hB := bnd_pos (q := 0) (by decide) s.length
  have h2 := sizeG_le (q := 0) (B := bnd 0 s.length) (by omega) h.bd e
  have h3 : (r.2.1.length : Int) * bnd 0 s.length ≤ 6 * bnd 0 s.length := Int.mul_le_mul_of_nonneg_right (by omega) (by omega)
  have h4 : bnd 0 (s.length + 1) ≤ bnd 0 61 := bnd_mono (by decide) (by have := h.len; omega)
  rw [bnd_succ] at h4
  omega
theorem Reach.head {g : Gram} {s : Sz} {z0 : Str} (h : SzOk g 0 s) (h0 : z0 ∈ g.map (·.1)) {z : Str} (r : Reach g s z0 z) : z ∈ g.map (·.1) := by
  cases r with
  | start => exact h0
  | @step r p hr hs _ hp hq =>
    obtain ⟨m, e⟩ := hs
    obtain ⟨v, e2, _⟩ := (sizeG_part h.pos e).2 z hp hq
    obtain ⟨r', hr', e3, _⟩ := h.hd z v e2
    rw [← e3]
    exact List.mem_map.mpr ⟨r', hr', rfl⟩
theorem WyOk.len {g : Gram} {s : Sz} {z0 : Str} {o : Sz} (h : SzOk g 0 s) (h0 : z0 ∈ g.map (·.1)) (w : WyOk g s z0 o) : o.length ≤ g.length := by
  have := nodup_len (ys := g.map (·.1)) w.nd fun x hx => by
    obtain ⟨p, hp, rfl⟩ := List.mem_map.mp hx
    exact (w.rch p.1 p.2 (look_of w.nd hp)).head h h0
  rwa [List.length_map, List.length_map] at this
def mu2 (g : Gram) (o : Sz) : Nat := (g.map fun r => match look o r.1 with
  | none => (61 * bnd 0 61).toNat + 1
  | some v => v.toNat).sum
theorem WyOk.first (g : Gram) (s : Sz) (z0 : Str) : WyOk g s z0 [(z0, 0)] := by
  have hl : ∀ z v, look [(z0, (0 : Int))] z = some v → z = z0 ∧ v = 0 := fun z v e => by
    rw [look_cons] at e
    by_cases hz : z0 = z
    · rw [if_pos hz] at e
      cases e
      exact ⟨hz.symm, rfl⟩
    · rw [if_neg hz] at e
      cases e
  have hb := bnd_pos (q := 0) (by decide) 61
  refine ⟨by simp, by rw [look_cons, if_pos rfl], fun z v e => ?_, fun z v e => ?_, fun z v e => ?_⟩
  · rw [(hl z v e).2]; exact Int.le_refl _
  · rw [(hl z v e).2]
    show (0 : Int) ≤ ((1 : Nat) : Int) * _
    omega
  · rw [(hl z v e).1]; exact .start

theorem WyOk.step {g : Gram} {s : Sz} {z0 : Str} {o : Sz} (hg : okGram g = true) (hs : SzOk g 0 s) (h0 : z0 ∈ g.map (·.1)) (w : WyOk g s z0 o) {r : Rule} (hr : r ∈ g) {p : Str} (hp : p ∈ r.2.1) (hq : isQ p = false) {m h sp : Int} (em : sizeR s 0 r.2.1 = some m)
    (eh : look o r.1 = some h) (ep : look s p = some sp) (hv : ∀ v, look o p = some v → h + m - sp < v) : WyOk g s z0 (putS o p (h + m - sp)) ∧ mu2 g (putS o p (h + m - sp)) < mu2 g o := by
  have hg60 : g.length ≤ 60 := by
    unfold okGram at hg
    rw [Bool.and_eq_true] at hg
    exact of_decide_eq_true hg.1
  have hm := sized_le hg hs hr em
  have hsp : 1 + sp ≤ m := by
    obtain ⟨v, e1, e2⟩ := (sizeG_part hs.pos em).2 p hp hq
    rw [ep] at e1
    cases e1
    omega
  have hsp1 := hs.pos _ _ ep
  have hh := w.nn _ _ eh
  have hhb := w.bd _ _ eh
  have hB := bnd_pos (q := 0) (by decide) 61
  have hpos : 1 ≤ h + m - sp := by omega
  have hne0 : p ≠ z0 := fun z => by
    have := hv 0 (by rw [z]; exact w.has)
    omega
  have hrp : Reach g s z0 p := .step hr ⟨m, em⟩ (w.rch _ _ eh) hp hq
  have lenle : o.length ≤ (putS o p (h + m - sp)).length := by
    rw [put_len]
    split <;> omega
  have bd' : h + m - sp ≤ (putS o p (h + m - sp)).length * bnd 0 61 := by
    rw [put_len]
    split
    · rename_i hmem
      obtain ⟨v, e1⟩ : ∃ v, look o p = some v := by
        cases e : look o p with
        | some v => exact ⟨v, rfl⟩
        | none => exact absurd hmem (look_none e)
      have h1 := hv v e1
      have h2 := w.bd _ _ e1
      omega
    · rw [Int.natCast_add, Int.add_mul]
      show _ ≤ _ + (1 : Int) * _
      rw [Int.one_mul]
      omega
  have ok' : WyOk g s z0 (putS o p (h + m - sp)) := by
    refine ⟨?_, ?_, fun z v e => ?_, fun z v e => ?_, fun z v e => ?_⟩
    · rw [put_keys]
      split
      · exact w.nd
      · rename_i hn
        exact nd_snoc w.nd hn
    · rw [look_put, if_neg hne0.symm]
      exact w.has
    · rw [look_put] at e
      split at e
      · cases e; omega
      · exact w.nn z v e
    · rw [look_put] at e
      split at e
      · cases e; exact bd'
      · have h1 := w.bd z v e
        have h2 : (o.length : Int) * bnd 0 61 ≤ ((putS o p (h + m - sp)).length : Int) * bnd 0 61 := Int.mul_le_mul_of_nonneg_right (by omega) (by omega)
        omega
    · rw [look_put] at e
      split at e
      · rename_i hz
        rw [hz]; exact hrp
      · exact w.rch z v e
  refine ⟨ok', ?_⟩
  obtain ⟨r', hr', e3⟩ := List.mem_map.mp (hrp.head hs h0)
  have hlen := ok'.len hs h0
  have hmax : h + m - sp ≤ 61 * bnd 0 61 := by
    have h2 : ((putS o p (h + m - sp)).length : Int) * bnd 0 61 ≤ 61 * bnd 0 61 := Int.mul_le_mul_of_nonneg_right (by omega) (by omega)
    omega
  unfold mu2
  refine sum_lt (fun x hx => ?_) ⟨r', hr', ?_⟩
  · rw [look_put]
    by_cases hz : x.1 = p
    · rw [if_pos hz, hz]
      cases e : look o p with
      | none => show (h + m - sp).toNat ≤ (61 * bnd 0 61).toNat + 1; omega
      | some v =>
        have := hv v e
        show (h + m - sp).toNat ≤ v.toNat
        omega
    · rw [if_neg hz]
      exact Nat.le_refl _
  · have e3 : r'.1 = p := e3
    rw [look_put, if_pos e3, e3]
    cases e : look o p with
    | none => show (h + m - sp).toNat < (61 * bnd 0 61).toNat + 1; omega
    | some v =>
      have := hv v e
      show (h + m - sp).toNat < v.toNat
      omega

theorem down_reach {g : Gram} {s : Sz} {z0 : Str} {o : Sz} (hs : SzOk g 0 s) (w : WyOk g s z0 o) (f : DownFix g s o) {z : Str} (h : Reach g s z0 z) : ∃ v, look o z = some v := by
  induction h with
  | start => exact ⟨0, w.has⟩
  | @step r p hr hsz _ hp hq ih =>
    obtain ⟨h, eh⟩ := ih
    obtain ⟨m, em⟩ := hsz
    obtain ⟨sp, e1, _⟩ := (sizeG_part hs.pos em).2 p hp hq
    obtain ⟨v, e2, _⟩ := f r hr p hp m h sp em eh hq e1
    exact ⟨v, e2⟩

end FR


set_option linter.all false
set_option maxRecDepth 100000
set_option maxHeartbeats 4000000
namespace L2
open PySem PySem.Spec PyProof.Rows
theorem rv_nolen : typeLookup (.type "reversed") "__len__" = pure none := by rw [typeLookup_type, builtinLookup_eq_fast]; kernel_rfl
theorem rv_hint : typeLookup (.type "reversed") "__length_hint__" = pure (some (.builtin "reversed.__length_hint__")) := by rw [typeLookup_type, builtinLookup_eq_fast]; kernel_rfl
theorem rv_slotH : Slot "reversed" "__length_hint__" "reversed.__length_hint__" := .of (owner := "reversed") (n := "__length_hint__") (by rw [typeLookup_type, builtinLookup_eq_fast]; kernel_rfl) (by decide +kernel) (by decide +kernel) (by decide +kernel) (by first | exact .inl (by decide +kernel) | exact .inr (by decide +kernel)) (by rw [isSubtype_type]; kernel_rfl)
theorem rv_entH : entryFor table "reversed.__length_hint__" = some Builtin.«reversed.__length_hint__» := entryFor_of_tree (by kernel_rfl)
theorem rv_argH (a : Value) : argsOk "reversed.__length_hint__" ⟨[a], []⟩ := by unfold argsOk; kernel_rfl
section
variable {prog : Program} {w : World} {A : Around} {E : Value → Shared → Prop} {s : Shared}
theorem walks_revT (hh : A.handled = none) (it l : Addr) (hne : l ≠ it) (items : Array Value) (hz : (items.size : Int) < 2 ^ 63) :
    Walks prog w A it [it, l] [it] items.size (fun i v => items[items.size - 1 - i]? = some v) (fun i h => RevT h it l ((items.size : Int) - 1 - i) ∧ IsTup h l items) where
  sub := fun b hb => by simp at hb; simp [hb]
  frame := fun i h h' st hk => by
    obtain ⟨⟨o, a, b, c⟩, ⟨o2, a2, b2⟩⟩ := st
    exact ⟨⟨o, hk it (by simp) o a, b, c⟩, ⟨o2, hk l (by simp) o2 a2, b2⟩⟩
  item := fun i s Q E hi st hQ => by
    have e : ((items.size : Int) - 1 - (i : Nat)) = ((items.size - 1 - i : Nat) : Int) := by omega
    rw [e] at st
    refine next_revT st.1 st.2 (x := items[items.size - 1 - i]) (by simp) hz fun h' hit' hs' => ?_
    obtain ⟨o2, a2, b2⟩ := st.2
    refine hQ _ h' (s.toks + 1) (by simp) ⟨?_, o2, (hs'.2 l hne).trans a2, b2⟩ fun b o hb q => hs'.extBut b o (fun z => hb (by simp [z])) q
    have e2 : ((items.size - 1 - i : Nat) : Int) - 1 = (items.size : Int) - 1 - ((i + 1 : Nat) : Int) := by omega
    rw [e2] at hit'
    exact hit'
  done := fun s Q E st hQ => by
    have e : ((items.size : Int) - 1 - (items.size : Nat)) = -1 := by omega
    rw [e] at st
    exact end_revT hh st.1 fun h' he' => hQ h' s.toks fun b o hb q => he' b o (fun z => hb (by simp [z])) q
  self := fun _ _ _ _ st hQ => iter_revT st.1 hQ
theorem call_hintT {it l : Addr} {items : Array Value} {Q : Value → Shared → Prop} (hit : RevT s.heap it l ((items.size : Int) - 1)) (hl : IsTup s.heap l items) (hz : (items.size : Int) < 2 ^ 63)
    (h : ∀ t tk, Q (.int (items.size : Int) t) { s with toks := tk }) : wpAny (model prog w) A (call (.builtin "reversed.__length_hint__") [.ref it]) Q E s := by
  obtain ⟨o, ho, hc, hd⟩ := id hit
  have hT : s.TypeIs (.ref it) "reversed" := ⟨o, ho, hc⟩
  refine wpAny_call_entry rv_slotH hT rv_entH ?_ (rv_argH _)
  unfold Builtin.«reversed.__length_hint__»
  refine wpAny_bind (wpAny_pure (wpAny_bind (wpAny_field ho hd (x := .ref l) rfl ?_)))
  refine (show wpAny _ _ (if (Value.ref l == Value.none) = true then _ else _) _ _ s from ?_)
  rw [if_neg (show ¬ (Value.ref l == Value.none) = true from Bool.false_ne_true)]
  refine wpAny_bind (len_tuple hl hz ?_)
  refine wpAny_bind (wpAny_pure (wpAny_bind (wpAny_field (s := { s with toks := s.toks + 1 + 1 }) ho hd (x := .int ((items.size : Int) - 1) 0) rfl ?_)))
  refine (show wpAny _ _ (if (items.size : Int) < (items.size : Int) - 1 + 1 then _ else _) _ _ _ from ?_)
  rw [if_neg (by omega)]
  have e : (items.size : Int) - 1 + 1 = (items.size : Int) := by omega
  rw [e]
  exact wpAny_bind (wpAny_mkInt (wpAny_pure ⟨_, rfl, h _ _⟩))
theorem hint_revT {it l : Addr} {items : Array Value} {Q : Bool → Shared → Prop} (hit : RevT s.heap it l ((items.size : Int) - 1)) (hl : IsTup s.heap l items) (hz : items.size ≤ sizeLine) (h : ∀ b tk, Q b { s with toks := tk }) :
    wpAny (model prog w) A (Builtin.List.listLengthHint (.ref it)) Q E s := by
  obtain ⟨o, ho, hc, hd⟩ := id hit
  have hT : s.TypeIs (.ref it) "reversed" := ⟨o, ho, hc⟩
  unfold Builtin.List.listLengthHint
  refine wpAny_bind (wpAny_specialOf hT rv_nolen ?_)
  show wpAny _ _ (specialOf (Value.ref it) (Str.ofString "__length_hint__") >>= _) _ _ _
  refine wpAny_bind (wpAny_specialOf hT rv_hint ?_)
  generalize hid : ("reversed.__length_hint__" : String) = id0
  wp_delta; rw [show splitId id0 = some ("reversed", "__length_hint__") from by subst hid; decide +kernel]; subst hid
  refine wpAny_bind (wpAny_isInstance (T := "reversed") (b := true) hT (by rw [isSubtype_type]; kernel_rfl) ?_)
  rw [if_neg (by decide)]
  refine (show wpAny _ _ (if _ then _ else _) _ _ _ from ?_)
  rw [if_neg (by decide)]
  refine wpAny_bind (wpAny_rule (wpAny_bind (wpAny_of_eq (rv_slotH.bind (.ref it)) ?_)))
  refine wpAny_bind (wpAny_attempt (call_hintT hit hl (by rw [sizeLine_eq] at hz; omega) fun t tk => ?_))
  have f1 : Builtin.List.listFitsIndex (items.size : Int) = true := by
    unfold Builtin.List.listFitsIndex
    rw [sizeLine_eq] at hz
    rw [Bool.and_eq_true, decide_eq_true_eq, decide_eq_true_eq]
    omega
  have f2 : Builtin.List.listTooLong (items.size : Int).toNat = false := by
    unfold Builtin.List.listTooLong
    exact decide_eq_false (by rw [Int.toNat_natCast]; omega)
  have f3 : ¬ (items.size : Int) < 0 := by omega
  revert f1 f2 f3
  generalize (items.size : Int) = n
  intro f1 f2 f3
  refine (show wpAny _ _ (asInt? (.int n t) >>= _) _ _ _ from wpAny_bind (wpAny_pure ?_))
  refine wpAny_ite_split (fun z => absurd z (by rw [f1]; decide)) fun _ => ?_
  refine wpAny_ite_split (fun z => absurd z f3) fun _ => ?_
  refine wpAny_ite_split (fun z => absurd z (by rw [f2]; decide)) fun _ => ?_
  exact wpAny_pure (h _ _)

theorem call_list_revT {it l : Addr} {items : Array Value} {Q : Value → Shared → Prop} (hh : A.handled = none) (hit : RevT s.heap it l ((items.size : Int) - 1)) (hl : IsTup s.heap l items) (hne : l ≠ it) (hn : items.size ≤ sizeLine)
    (hQ : ∀ h' tk acc' c', (∀ b o, b ≠ it → s.heap.get? b = some o → h'.get? b = some o) → h'.get? s.heap.objs.size = some { cls := .type "list", dict := none, data := .seq acc' c', slots := #[] } →
      ItemsOf (fun i v => items[items.size - 1 - i]? = some v) acc' items.size → Q (.ref s.heap.objs.size) { s with heap := h', toks := tk }) : wpAny (model prog w) A (call (.type "list") [.ref it]) Q E s := by
  have itlt : it < s.heap.objs.size := by obtain ⟨o, ho, _⟩ := hit; exact Heap.lt_size ho
  have llt : l < s.heap.objs.size := hl.lt
  have hz63 : (items.size : Int) < 2 ^ 63 := by rw [sizeLine_eq] at hn; omega
  refine callType_codes (Q₁ := fun obj t => obj = .ref s.heap.objs.size ∧ t = { s with heap := s.heap.push { cls := .type "list", data := .seq #[] } }) F.called_list (F.typeCall_list_1 _) F.entry_list_init (code_list_new _ ⟨rfl, rfl⟩) fun obj t ht => ?_
  obtain ⟨rfl, rfl⟩ := ht
  have g0 : (s.heap.push { cls := .type "list", data := .seq #[] }).get? s.heap.objs.size = some { cls := .type "list", data := .seq #[] } := Heap.get?_push_size _ rfl
  refine ⟨⟨_, g0, rfl⟩, F.args_list_init_2 _ _, ?_⟩
  show wpAny _ _ (Builtin.List.listItems (.ref s.heap.objs.size) >>= fun old => Builtin.List.listUpdate (.ref s.heap.objs.size) (fun _ => #[]) >>= fun _ => letGo old.toList.reverse >>= fun _ => Builtin.List.listExtendWith (.ref s.heap.objs.size) (.ref it) .none) _ _ _
  refine wpAny_bind ?_
  unfold Builtin.List.listItems
  refine wpAny_bind (wpAny_seqItems g0 rfl (wpAny_pure ?_))
  refine wpAny_bind (show wpAny _ _ (updateSeq s.heap.objs.size (fun _ => #[])) _ _ _ from wpAny_updateSeq g0 rfl ?_)
  have g1 := Heap.get?_update_self (Obj.mapSeq (fun _ => (#[] : Array Value))) g0 rfl
  have k1 : ∀ b o, s.heap.get? b = some o → ((s.heap.push { cls := .type "list", data := .seq #[] }).update s.heap.objs.size (Obj.mapSeq (fun _ => (#[] : Array Value)))).get? b = some o := fun b o e =>
    (Heap.get?_update_other _ _ (Nat.ne_of_gt (Heap.lt_size e))).trans (Heap.get?_push_of_some _ e)
  have tup_at : ∀ {h1 : Heap}, (∀ b o, s.heap.get? b = some o → h1.get? b = some o) → RevT h1 it l ((items.size : Int) - 1) ∧ IsTup h1 l items := fun {h1} k => by
    obtain ⟨o, ho, r⟩ := hit
    obtain ⟨o2, ho2, r2⟩ := hl
    exact ⟨⟨o, k it o ho, r⟩, ⟨o2, k l o2 ho2, r2⟩⟩
  refine wpAny_bind (wpAny_letGo ?_)
  revert g1 k1
  generalize (s.heap.push { cls := .type "list", data := .seq #[] }).update s.heap.objs.size (Obj.mapSeq (fun _ => (#[] : Array Value))) = h1
  intro g1 k1
  obtain ⟨hit1, hl1⟩ := tup_at k1
  have hT : Shared.TypeIs { s with heap := h1 } (.ref it) "reversed" := by obtain ⟨o, ho, hc, _⟩ := hit1; exact ⟨o, ho, hc⟩
  have W := (walks_revT (prog := prog) (w := w) (A := A.in1.in1) hh it l hne items hz63).toS
  have nf : s.heap.objs.size ∉ [it, l] := by simp only [List.mem_cons, List.not_mem_nil, or_false, not_or]; exact ⟨Nat.ne_of_gt itlt, Nat.ne_of_gt llt⟩
  have key : ∀ (h2 : Heap) (c1 tk : Nat), (∀ b o, s.heap.get? b = some o → h2.get? b = some o) → h2.get? s.heap.objs.size = some { cls := .type "list", data := .seq #[] c1 } →
      codeAny (model prog w) A.in1 (.builtin "list.extend.loop" ⟨[.ref s.heap.objs.size, .ref it, .none], []⟩) (wants (fun r s₂ => r = Value.none ∧ Q (Value.ref s.heap.objs.size) s₂) E) { s with heap := h2, toks := tk } := by
    intro h2 c1 tk k2 g2
    obtain ⟨hit2, hl2⟩ := tup_at k2
    refine codeAny_extend_loopS W hn _ nf _ items.size 0 _ _ _ rfl (Nat.zero_le _) ⟨by simpa using hit2, hl2⟩ g2 (ItemsOf.nil _) fun s' acc' c' hm hS' hacc => ?_
    rw [Moved.eq_with hm]
    refine ⟨rfl, hQ s'.heap s'.toks acc' c' (fun b o hb e => hm.heap b o (fun hmem => ?_) (k2 b o e)) hS' hacc⟩
    rcases List.mem_cons.mp hmem with z | hmem
    · rw [z] at e; exact Nat.lt_irrefl _ (Heap.lt_size e)
    · exact hb (List.mem_singleton.mp hmem)
  unfold Builtin.List.listExtendWith
  refine wpAny_bind (wpAny_typeOf hT ?_)
  have ns : Builtin.List.listSameRef (.ref s.heap.objs.size) (.ref it) = false := by simp [Builtin.List.listSameRef, Nat.ne_of_gt itlt]
  rw [if_neg (by rw [ns]; decide)]
  refine wpAny_bind (iter_revT hit1 (wpAny_bind (wpAny_holding (hint_revT hit1 hl1 hn fun b tk => ?_))))
  refine wpAny_ite_split (fun _ => ?_) (fun _ => wpAny_pure ⟨plainId_quiet F.plain_extend_loop _, key h1 _ _ k1 g1⟩)
  refine wpAny_bind (wpAny_rule (wpAny_bind ?_))
  refine (show wpAny _ _ (updateSeq s.heap.objs.size (·.push .none) >>= fun _ => updateSeq s.heap.objs.size (·.pop)) _ _ _ from ?_)
  refine wpAny_bind (wpAny_updateSeq g1 rfl ?_)
  have g2 := Heap.get?_update_self (Obj.mapSeq (·.push Value.none)) g1 rfl
  refine wpAny_updateSeq (hz := by seq_fits) g2 rfl ?_
  have g3 := Heap.get?_update_self (Obj.mapSeq (·.pop)) g2 rfl
  refine wpAny_pure ⟨plainId_quiet F.plain_extend_loop _, key _ _ _ (fun b o e => ?_) g3⟩
  have nb : s.heap.objs.size ≠ b := Nat.ne_of_gt (Heap.lt_size e)
  exact (Heap.get?_update_other _ _ nb).trans ((Heap.get?_update_other _ _ nb).trans (k1 b o e))
end
def tListRevT (K : PySem.W.Frag) (ta : TA) : TE := fun σ H Q => ta σ H fun vs H1 => ∃ a xs, vs = [.ref a] ∧ SqT K H1 a xs ∧ ∀ l, H1 l = none → Q (.ref l) (upd H1 l (.lst xs.reverse))
theorem pe_list_revT (K : PySem.W.Frag) {X : Cx} (hK : X.K = K) {a : Expr} {ta : TA} {p p2 pos pos2 : Pos} (hc : X.calm = true) (hg : Gl X "list") (hm : X.mg "list" = none) (hg2 : Gl X "reversed") (hm2 : X.mg "reversed" = none) (ha : PA X [a] ta)
    (hs : starEach [.Call (.Name "reversed" p2) [a] [] pos2] X.env = [(false, eval (.Call (.Name "reversed" p2) [a] [] pos2) X.env)] := by rfl) (hs2 : starEach [a] X.env = [(false, eval a X.env)] := by rfl) :
    PE X (.Call (.Name "list" p) [.Call (.Name "reversed" p2) [a] [] pos2] [] pos) (tListRevT K ta) := by
  subst hK
  intro pins s σ H Q I h
  refine wpAny_Call_Name_kw (ld_blt I hg hm PyProof.Rows.Boot.«list» ?_)
  refine PyProof.Rows.callWith_type1 ?_ hs rfl
  rw [hs]
  show wpAny _ _ (spliced ((false, eval (.Call (.Name "reversed" p2) [a] [] pos2) X.env) :: [])) _ _ s
  refine Calls.spliced_cons (wpAny_Call_Name_kw (ld_blt I hg2 hm2 PyProof.Rows.Boot.«reversed» (PyProof.Rows.callWith_type1 (thn (ha pos2 pins s σ H _ I h) fun us s1 ⟨vs, H1, I1, r1, q1⟩ => ?_) hs2 rfl)))
  obtain ⟨l, xs, rfl, hq, q⟩ := q1
  obtain ⟨u, rfl, ru⟩ := vals1 r1
  cases ru
  obtain ⟨its, rv, pl, hz⟩ := I1.tuple hq
  have hlen : xs.length = its.length := rv.length
  have hn63 := line63
  refine call_rev_tuple pl (by rw [List.size_toArray]; omega) fun h1 hit hk => Calls.spliced_nil ?_
  have pl1 : IsTup h1 l its.toArray := by obtain ⟨o, ho, r⟩ := pl; exact ⟨o, hk l o ho, r⟩
  refine call_list_revT (s := { s1 with heap := h1, toks := s1.toks + 1 + 1 }) (items := its.toArray) (I1.ok.hd hc) hit pl1 (Nat.ne_of_lt pl.lt) (by rw [List.size_toArray]; omega) fun h' tk acc' c' hk' hS hit' => ?_
  have rv' : Vals xs.reverse acc'.toList := by
    refine vals_of (by
      have e1 : acc'.toList.length = its.length := (Array.length_toList.trans hit'.1).trans (List.size_toArray ..)
      rw [List.length_reverse, hlen, e1]) fun j x u h1 h2 => ?_
    have h3 := hit'.2 j u (by rw [← Array.getElem?_toList]; exact h2)
    have hj : j < xs.length := by
      have := (List.getElem?_eq_some_iff.mp h1).1
      rwa [List.length_reverse] at this
    rw [List.getElem?_reverse hj] at h1
    obtain ⟨u', e1, r'⟩ := rv.get h1
    rw [List.getElem?_toArray, List.size_toArray, ← hlen] at h3
    rw [h3] at e1
    cases e1
    exact r'
  have le : s1.heap.objs.size ≤ h1.objs.size := by
    obtain ⟨o, ho, _⟩ := hit
    exact Nat.le_of_lt (Heap.lt_size ho)
  have kk : ∀ b u, s1.heap.get? b = some u → h'.get? b = some u := fun b u e => hk' b u (Nat.ne_of_lt (Heap.lt_size e)) (hk b u e)
  exact ⟨.ref h1.objs.size, _, I1.laid (t' := tk) kk le (show ObjOk X.prog X.w _ h' _ (.lst _) from ⟨by rw [List.length_reverse]; exact hz, acc'.toList, c', rv', by simpa using hS⟩), rfl, q _ (I1.hok.fresh le)⟩
end L2


set_option linter.all false
set_option maxRecDepth 100000
set_option maxHeartbeats 4000000
namespace FR
open PySem L2

def StOk (H : Hp) (g : Gram) (s : Sz) (z0 : Str) (o : Sz) (kvs : List (Key × V)) : Prop := ∀ p v, look o p = some v → (p = z0 ∧ valV kvs (Sum.inr p) = some .non) ∨
  (p ≠ z0 ∧ ∃ (T : Addr) (num pl : Nat) (r : Rule) (m h sp : Int), valV kvs (Sum.inr p) = some (.ref T) ∧ H T = some (.tup [.int (num : Int), .int (pl : Int)]) ∧ g[num]? = some r ∧ r.2.1[pl]? = some p ∧ isQ p = false ∧ sizeR s 0 r.2.1 = some m ∧ look o r.1 = some h ∧ look s p = some sp ∧ h + m - sp ≤ v)
theorem StOk.mono {H H' : Hp} {g : Gram} {s : Sz} {z0 : Str} {o : Sz} {kvs : List (Key × V)} (h : StOk H g s z0 o kvs) (sm : Same H H') : StOk H' g s z0 o kvs := fun p v e => by
  rcases h p v e with h1 | ⟨hne, T, num, pl, r, m, hh, sp, a, b, c⟩
  · exact .inl h1
  · exact .inr ⟨hne, T, num, pl, r, m, hh, sp, a, sm _ _ b, c⟩
theorem valV_put_same (kvs : List (Key × V)) (k : Key) (v : V) : valV (putK kvs k v) k = some v := by
  unfold putK
  by_cases h : (kvs.any fun kv => decide (kv.1 = k)) = true
  · rw [if_pos h]
    induction kvs with
    | nil => cases h
    | cons q kvs ih =>
      rw [List.map_cons]
      by_cases e : q.1 = k
      · rw [if_pos e, valV_pos (by exact e)]
      · rw [if_neg e, valV_neg e]
        rw [List.any_cons, decide_eq_false e, Bool.false_or] at h
        exact ih h
  · rw [if_neg h]
    induction kvs with
    | nil => rw [List.nil_append, valV_pos rfl]
    | cons q kvs ih =>
      rw [List.any_cons, Bool.or_eq_true, not_or] at h
      show valV (q :: (kvs ++ [(k, v)])) k = _
      rw [valV_neg (fun e => h.1 (decide_eq_true e))]
      exact ih h.2
theorem valV_put_ne (kvs : List (Key × V)) {k k' : Key} (v : V) (hne : k' ≠ k) : valV (putK kvs k v) k' = valV kvs k' := by
  unfold putK
  by_cases h : (kvs.any fun kv => decide (kv.1 = k)) = true
  · rw [if_pos h]
    clear h
    induction kvs with
    | nil => rfl
    | cons q kvs ih =>
      rw [List.map_cons]
      by_cases e : q.1 = k
      · rw [if_pos e]
        refine Eq.trans (valV_neg ?_) (Eq.trans ih (Eq.symm (valV_neg ?_)))
        · exact fun z => hne (z.symm.trans e)
        · exact fun z => hne (z.symm.trans e)
      · rw [if_neg e]
        by_cases e2 : q.1 = k'
        · rw [valV_pos e2, valV_pos e2]
        · rw [valV_neg e2, valV_neg e2, ih]
  · rw [if_neg h]
    clear h
    induction kvs with
    | nil => rw [List.nil_append, valV_neg (fun z => hne z.symm)]
    | cons q kvs ih =>
      show valV (q :: (kvs ++ [(k, v)])) k' = _
      by_cases e2 : q.1 = k'
      · rw [valV_pos e2, valV_pos e2]
      · rw [valV_neg e2, valV_neg e2, ih]
theorem StOk.put {H H' : Hp} {g : Gram} {s : Sz} {z0 : Str} {o : Sz} {kvs : List (Key × V)} (st : StOk H g s z0 o kvs) (sm : ∀ T xs, H T = some (.tup xs) → H' T = some (.tup xs)) {T : Addr} {num pl : Nat} {r : Rule} {x : Str} {m h sp : Int} (hne : x ≠ z0) (hT : H' T = some (.tup [.int (num : Int), .int (pl : Int)])) (er : g[num]? = some r) (ex : r.2.1[pl]? = some x)
    (hq : isQ x = false) (em : sizeR s 0 r.2.1 = some m) (eh : look o r.1 = some h) (esp : look s x = some sp) (hsp : sp < m) (hless : ∀ v, look o x = some v → h + m - sp < v) : StOk H' g s z0 (putS o x (h + m - sp)) (putK kvs (Sum.inr x) (.ref T)) := by
  have down : ∀ z v, look o z = some v → ∃ v', look (putS o x (h + m - sp)) z = some v' ∧ v' ≤ v := fun z v e => by
    rw [look_put]
    by_cases hz : z = x
    · rw [if_pos hz]
      have := hless v (hz ▸ e)
      exact ⟨_, rfl, by omega⟩
    · rw [if_neg hz]
      exact ⟨v, e, Int.le_refl _⟩
  intro p v e
  rw [look_put] at e
  by_cases hp : p = x
  · rw [if_pos hp] at e
    cases e
    rw [hp]
    obtain ⟨h', e1, e2⟩ := down _ _ eh
    exact .inr ⟨hne, T, num, pl, r, m, h', sp, valV_put_same _ _ _, hT, er, ex, hq, em, e1, esp, by omega⟩
  · rw [if_neg hp] at e
    have hk : (Sum.inr p : Key) ≠ Sum.inr x := fun z => hp (Sum.inr.inj z)
    rcases st p v e with ⟨h1, h2⟩ | ⟨hne', T', num', pl', r', m', hh, sp', a, b, c, d, f, g', i, j, l⟩
    · exact .inl ⟨h1, by rw [valV_put_ne _ _ hk]; exact h2⟩
    · obtain ⟨h', e1, e2⟩ := down _ _ i
      exact .inr ⟨hne', T', num', pl', r', m', h', sp', by rw [valV_put_ne _ _ hk]; exact a, sm _ _ b, c, d, f, g', e1, j, by omega⟩

theorem RowsG.app {g : Gram} {a b : List Str} {x y : List Nat} (h : RowsG g a x) (h' : RowsG g b y) : RowsG g (a ++ b) (x ++ y) := by
  induction h with
  | nil => exact h'
  | @cons ns k r row e h ih =>
    refine RowsG.cons e ?_
    show RowsG g (unQ r.2.1 ++ (ns ++ b)) (row ++ y)
    rw [← List.append_assoc]
    exact ih

def szSum (s : Sz) (ps : List Str) : Int := ((unQ ps).map fun p => (look s p).getD 0).sum

def SmOk (g : Gram) (s e : Sz) : Prop := ∀ z v, look s z = some v → ∃ (k : Nat) (r : Rule), look e z = some (k : Int) ∧ g[k]? = some r ∧ r.1 = z ∧ sizeR s 0 r.2.1 = some v
theorem szSum_nil (s : Sz) : szSum s [] = 0 := rfl
theorem unQ_app (a b : List Str) : unQ (a ++ b) = unQ a ++ unQ b := by
  unfold unQ
  exact List.filter_append ..
theorem szSum_app (s : Sz) (a b : List Str) : szSum s (a ++ b) = szSum s a + szSum s b := by
  unfold szSum
  rw [unQ_app, List.map_append, List.sum_append]
theorem szSum_rev (s : Sz) (a : List Str) : szSum s a.reverse = szSum s a := by
  unfold szSum unQ
  rw [List.filter_reverse, List.map_reverse, List.sum_reverse]
theorem sizeR_sum {s : Sz} (hpos : ∀ z v, look s z = some v → 1 ≤ v) {ps : List Str} {m : Int} (e : sizeR s 0 ps = some m) : m = 1 + szSum s ps := by
  have h1 : sizeG s 0 ps 1 = some (1 + szSum s ps) := sizeG_all fun p hp hq => by
    obtain ⟨v, hv, _⟩ := (sizeG_part hpos e).2 p hp hq
    rw [hv]
    rfl
  have e : sizeG s 0 ps 1 = some m := e
  rw [h1] at e
  exact (Option.some.inj e).symm
end FR


set_option linter.all false
set_option maxRecDepth 100000
set_option maxHeartbeats 4000000
namespace FR
open PySem L2
def AttO (g : Gram) (s : Sz) (z0 : Str) (o : Sz) : Prop := ∀ p v, look o p = some v → p = z0 ∨ ∃ (r : Rule) (m h sp : Int), r ∈ g ∧ sizeR s 0 r.2.1 = some m ∧ look o r.1 = some h ∧ p ∈ r.2.1 ∧ isQ p = false ∧ look s p = some sp ∧ h + m - sp ≤ v
def DF (g : Gram) (s : Sz) (z0 : Str) (o : Sz) : Prop := DownFix g s o ∧ AttO g s z0 o
theorem StOk.att {H : Hp} {g : Gram} {s : Sz} {z0 : Str} {o : Sz} {kvs : List (Key × V)} (h : StOk H g s z0 o kvs) : AttO g s z0 o := fun p v e => by
  rcases h p v e with ⟨h1, _⟩ | ⟨_, T, num, pl, r, m, hh, sp, _, _, er, epl, hq, em, eh, esp, hle⟩
  · exact .inl h1
  · exact .inr ⟨r, m, hh, sp, List.mem_of_getElem? er, em, eh, List.mem_of_getElem? epl, hq, esp, hle⟩
theorem gap {g : Gram} {s : Sz} (hs : SzOk g 0 s) {r : Rule} {m sp : Int} {p : Str} (em : sizeR s 0 r.2.1 = some m) (hp : p ∈ r.2.1) (hq : isQ p = false) (esp : look s p = some sp) : 1 + sp ≤ m := by
  obtain ⟨v, ev, hv⟩ := (sizeG_part hs.pos em).2 p hp hq
  rw [esp] at ev
  cases ev
  exact hv
theorem wy_le {g : Gram} {s : Sz} (hs : SzOk g 0 s) {z0 : Str} {o o' : Sz} (w : WyOk g s z0 o) (a : AttO g s z0 o) (w' : WyOk g s z0 o') (f' : DownFix g s o') : ∀ (n : Nat) (p : Str) (v : Int), v.toNat ≤ n → look o p = some v → ∃ v', look o' p = some v' ∧ v' ≤ v := by
  intro n
  induction n with
  | zero =>
    intro p v hn e
    rcases a p v e with rfl | ⟨r, m, h, sp, hr, em, eh, hp, hq, esp, hle⟩
    · exact ⟨0, w'.has, w.nn _ _ e⟩
    · have := gap hs em hp hq esp
      have := w.nn _ _ eh
      omega
  | succ n ih =>
    intro p v hn e
    rcases a p v e with rfl | ⟨r, m, h, sp, hr, em, eh, hp, hq, esp, hle⟩
    · exact ⟨0, w'.has, w.nn _ _ e⟩
    · have hg := gap hs em hp hq esp
      have hn0 := w.nn _ _ eh
      obtain ⟨h', eh', hh'⟩ := ih r.1 h (by omega) eh
      obtain ⟨v', e1, e2⟩ := f' r hr p hp m h' sp em eh' hq esp
      exact ⟨v', e1, by omega⟩
theorem wy_uniq {g : Gram} {s : Sz} (hs : SzOk g 0 s) {z0 : Str} {o o' : Sz} (w : WyOk g s z0 o) (f : DF g s z0 o) (w' : WyOk g s z0 o') (f' : DF g s z0 o') (p : Str) : look o p = look o' p := by
  cases e : look o p with
  | none =>
    cases e' : look o' p with
    | none => rfl
    | some v' =>
      obtain ⟨v, e1, _⟩ := wy_le hs w' f'.2 w f.1 _ p v' (Nat.le_refl _) e'
      rw [e] at e1
      cases e1
  | some v =>
    obtain ⟨v', e1, h1⟩ := wy_le hs w f.2 w' f'.1 _ p v (Nat.le_refl _) e
    obtain ⟨v2, e2, h2⟩ := wy_le hs w' f'.2 w f.1 _ p v' (Nat.le_refl _) e1
    rw [e] at e2
    cases e2
    rw [e1]
    congr 1
    omega

def cnt (s : Sz) (v : Int) : Nat := (s.filter fun p => decide (p.2 < v)).length
theorem cnt_le : ∀ {s : Sz} {a b : Int}, a ≤ b → cnt s a ≤ cnt s b
  | [], a, b, _ => Nat.le_refl _
  | p :: s, a, b, h => by
    have ih := cnt_le (s := s) h
    unfold cnt at ih ⊢
    rw [List.filter_cons, List.filter_cons]
    by_cases h1 : p.2 < a
    · rw [if_pos (decide_eq_true h1), if_pos (decide_eq_true (by omega)), List.length_cons, List.length_cons]
      omega
    · rw [if_neg (fun z => h1 (of_decide_eq_true z))]
      split
      · rw [List.length_cons]; omega
      · exact ih
theorem cnt_lt : ∀ {s : Sz} {a b : Int} {z : Str}, a < b → (z, a) ∈ s → cnt s a + 1 ≤ cnt s b
  | [], a, b, z, _, h => by cases h
  | p :: s, a, b, z, hab, h => by
    have mono := cnt_le (s := s) (Int.le_of_lt hab)
    unfold cnt at mono ⊢
    rw [List.filter_cons, List.filter_cons]
    rcases List.mem_cons.mp h with e | h
    · subst e
      rw [if_neg (fun z => by have := of_decide_eq_true z; exact absurd this (Int.lt_irrefl _)), if_pos (decide_eq_true hab), List.length_cons]
      omega
    · have ih := cnt_lt hab h
      unfold cnt at ih
      by_cases h1 : p.2 < a
      · rw [if_pos (decide_eq_true h1), if_pos (decide_eq_true (by omega)), List.length_cons, List.length_cons]
        omega
      · rw [if_neg (fun z => h1 (of_decide_eq_true z))]
        split
        · rw [List.length_cons]; omega
        · exact ih
theorem cnt_len : ∀ {s : Sz} {a : Int} {z : Str}, (z, a) ∈ s → cnt s a + 1 ≤ s.length
  | [], a, z, h => by cases h
  | p :: s, a, z, h => by
    unfold cnt
    rw [List.filter_cons]
    have hle := List.length_filter_le (fun p : Str × Int => decide (p.2 < a)) s
    rcases List.mem_cons.mp h with e | h
    · subst e
      rw [if_neg (fun z => by have := of_decide_eq_true z; exact absurd this (Int.lt_irrefl _)), List.length_cons]
      omega
    · have ih := cnt_len h
      unfold cnt at ih
      split
      · rw [List.length_cons, List.length_cons]; omega
      · rw [List.length_cons]; omega
def bB : Nat → Int
  | 0 => 1
  | c + 1 => 1 + 3 * bB c
theorem bB_pos : ∀ c, 1 ≤ bB c
  | 0 => Int.le_refl _
  | c + 1 => by have := bB_pos c; show 1 ≤ 1 + 3 * bB c; omega
theorem bB_mono {a b : Nat} (h : a ≤ b) : bB a ≤ bB b := by
  induction h with
  | refl => exact Int.le_refl _
  | step _ ih =>
    rename_i k _
    have := bB_pos k
    show bB a ≤ 1 + 3 * bB k
    omega
theorem sum_le {f : Str → Int} {b : Int} : ∀ {ps : List Str}, (∀ p ∈ ps, f p ≤ b) → (ps.map f).sum ≤ ps.length * b
  | [], _ => by simp
  | p :: ps, h => by
    have ih := sum_le (f := f) (ps := ps) fun x hx => h x (List.mem_cons_of_mem _ hx)
    have h1 := h p (List.mem_cons_self ..)
    rw [List.map_cons, List.sum_cons, List.length_cons, Int.natCast_add, Int.add_mul]
    show _ ≤ _ + (1 : Int) * b
    rw [Int.one_mul]
    omega
theorem sum3 {s : Sz} {ps : List Str} {b : Int} (hb : 0 ≤ b) (h3 : ps.length ≤ 3) (h : ∀ p ∈ ps, isQ p = false → (look s p).getD 0 ≤ b) : szSum s ps ≤ 3 * b := by
  have h1 := sum_le (f := fun p => (look s p).getD 0) (b := b) (ps := unQ ps) fun p hp => h p (unQ_mem.mp hp).1 (unQ_mem.mp hp).2
  have h2 := unQ_len ps
  have h4 : ((unQ ps).length : Int) * b ≤ 3 * b := Int.mul_le_mul_of_nonneg_right (by omega) hb
  unfold szSum
  omega
theorem sz_small {g : Gram} {s : Sz} (hs : SzOk g 0 s) (hf : Fix g 0 s) (h3 : ∀ r ∈ g, r.2.1.length ≤ 3) : ∀ (n : Nat) (z : Str) (v : Int), v.toNat ≤ n → look s z = some v → v ≤ bB (cnt s v) := by
  intro n
  induction n with
  | zero =>
    intro z v hn e
    have := hs.pos z v e
    omega
  | succ n ih =>
    intro z v hn e
    obtain ⟨r, hr, hz, m, em, hm⟩ := hs.hd z v e
    have hsum := sizeR_sum hs.pos em
    have hv : m = v := by
      obtain ⟨v', e1, e2⟩ := hf r hr m em
      rw [hz, e] at e1
      cases e1
      omega
    have hnames : ∀ p ∈ r.2.1, isQ p = false → ∃ vp, look s p = some vp ∧ vp < v := fun p hp hq => by
      obtain ⟨vp, e1, e2⟩ := (sizeG_part hs.pos em).2 p hp hq
      exact ⟨vp, e1, by omega⟩
    cases hc : cnt s v with
    | zero =>
      have hno : ∀ p ∈ r.2.1, isQ p = false → (look s p).getD 0 ≤ 0 := fun p hp hq => by
        obtain ⟨vp, e1, e2⟩ := hnames p hp hq
        have := cnt_lt e2 (look_mem e1)
        omega
      have := sum3 (Int.le_refl 0) (h3 r hr) hno
      show v ≤ 1
      omega
    | succ c =>
      have hb := bB_pos c
      have hno : ∀ p ∈ r.2.1, isQ p = false → (look s p).getD 0 ≤ bB c := fun p hp hq => by
        obtain ⟨vp, e1, e2⟩ := hnames p hp hq
        have h1 := cnt_lt e2 (look_mem e1)
        have h2 := ih p vp (by have := hs.pos _ _ e1; omega) e1
        rw [e1]
        exact Int.le_trans h2 (bB_mono (by omega))
      have := sum3 (by omega) (h3 r hr) hno
      show v ≤ 1 + 3 * bB c
      omega
theorem keys4 {s : Sz} {nm : List Str} (nd : (s.map (·.1)).Nodup) (h : ∀ z ∈ s.map (·.1), z ∈ nm) (n4 : nm.length = 4) : s.length ≤ 4 := by
  have := nodup_len nd h
  rwa [List.length_map, n4] at this

theorem short4 {g : Gram} {s : Sz} {nm : List Str} (hs : SzOk g 0 s) (hf : Fix g 0 s) (h3 : ∀ r ∈ g, r.2.1.length ≤ 3) (n4 : nm.length = 4) (hnm : ∀ r ∈ g, r.1 ∈ nm) {z0 : Str} (h0 : z0 ∈ g.map (·.1)) {o : Sz} (w : WyOk g s z0 o) (f : DF g s z0 o)
    {r : Rule} {m h : Int} (hr : r ∈ g) (em : sizeR s 0 r.2.1 = some m) (eh : look o r.1 = some h) : h + m ≤ 1000 := by
  have s4 : s.length ≤ 4 := keys4 hs.nd (fun z hz => by
    obtain ⟨p, hp, rfl⟩ := List.mem_map.mp hz
    obtain ⟨r', hr', e1, _⟩ := hs.hd p.1 p.2 (look_of hs.nd hp)
    rw [← e1]
    exact hnm r' hr') n4
  have o4 : o.length ≤ 4 := keys4 w.nd (fun z hz => by
    obtain ⟨p, hp, rfl⟩ := List.mem_map.mp hz
    obtain ⟨r', hr', e1⟩ := List.mem_map.mp ((w.rch p.1 p.2 (look_of w.nd hp)).head hs h0)
    have e1 : r'.1 = p.1 := e1
    rw [← e1]
    exact hnm r' hr') n4
  have sz40 : ∀ z v, look s z = some v → v ≤ 40 := fun z v e => by
    have h1 := sz_small hs hf h3 _ z v (Nat.le_refl _) e
    have h2 := cnt_len (look_mem e)
    exact Int.le_trans h1 (Int.le_trans (bB_mono (show cnt s v ≤ 3 by omega)) (by decide))
  have m121 : ∀ {r : Rule} {m : Int}, r ∈ g → sizeR s 0 r.2.1 = some m → m ≤ 121 := fun {r m} hr em => by
    have hsum := sizeR_sum hs.pos em
    have := sum3 (s := s) (ps := r.2.1) (b := 40) (by decide) (h3 r hr) fun p hp hq => by
      obtain ⟨vp, e1, _⟩ := (sizeG_part hs.pos em).2 p hp hq
      rw [e1]
      exact sz40 p vp e1
    omega
  have ob : ∀ (n : Nat) (p : Str) (v : Int), v.toNat ≤ n → look o p = some v → v ≤ 120 * (cnt o v : Int) := fun n => by
    induction n with
    | zero =>
      intro p v hn e
      have := w.nn _ _ e
      omega
    | succ n ih =>
      intro p v hn e
      have hv0 := w.nn _ _ e
      rcases f.2 p v e with rfl | ⟨r', m', h', sp, hr', em', eh', hp, hq, esp, hle⟩
      · rw [w.has] at e
        cases e
        omega
      · have hg := gap hs em' hp hq esp
        have hn0 := w.nn _ _ eh'
        have hm := m121 hr' em'
        have hsp := hs.pos _ _ esp
        obtain ⟨v', e1, e2⟩ := f.1 r' hr' p hp m' h' sp em' eh' hq esp
        rw [e] at e1
        cases e1
        have h1 := ih r'.1 h' (by omega) eh'
        have h2 := cnt_lt (s := o) (show h' < v by omega) (look_mem eh')
        omega
  have h1 := ob _ r.1 h (Nat.le_refl _) eh
  have h2 := cnt_len (look_mem eh)
  have h3' := m121 hr em
  omega
end FR


set_option linter.all false
set_option maxRecDepth 100000
set_option maxHeartbeats 4000000
namespace FR
open PySem L2
def top (i : Nat) : Stmt := PySem.Challenge.pw_forestread_k14_whole_least_rows.main.body.getD i (.Pass ⟨0, 0, 0, 0⟩)
abbrev s_is_whole : Stmt := top 10
abbrev s_stands_in_texts : Stmt := top 11
abbrev s_is_sign : Stmt := top 12
abbrev s_is_name : Stmt := top 13
abbrev s_is_part : Stmt := top 14
abbrev s_is_worth : Stmt := top 18
abbrev s_are_parts : Stmt := top 19
abbrev s_is_rule : Stmt := top 20
abbrev s_is_grammar : Stmt := top 21
abbrev s_checked : Stmt := top 22
structure Adr where
  NoGrammar : Addr
  NoRow : Addr
  TooGreat : Addr
  none_ : Addr
structure Txt (K : PySem.W.Frag) (mg : Str → Option Value) (C : Adr) : Prop where
  z_isinstance : mg "isinstance" = none
  z_int : mg "int" = none
  z_bool : mg "bool" = none
  z_ord : mg "ord" = none
  z_str : mg "str" = none
  z_len : mg "len" = none
  z_all : mg "all" = none
  z_tuple : mg "tuple" = none
  z_list : mg "list" = none
  z_range : mg "range" = none
  z_enumerate : mg "enumerate" = none
  z_min : mg "min" = none
  z_max : mg "max" = none
  z_reversed : mg "reversed" = none
  z_sum : mg "sum" = none
  g_FIRST_CODE : ∃ t, mg "FIRST_CODE" = some (.int 32 t)
  g_LAST_CODE : ∃ t, mg "LAST_CODE" = some (.int 126 t)
  g_PERCENT_CODE : ∃ t, mg "PERCENT_CODE" = some (.int 37 t)
  g_MOST_LETTERS : ∃ t, mg "MOST_LETTERS" = some (.int 8 t)
  g_MOST_PARTS : ∃ t, mg "MOST_PARTS" = some (.int 6 t)
  g_MOST_RULES : ∃ t, mg "MOST_RULES" = some (.int 60 t)
  g_MOST_NUMBERS : ∃ t, mg "MOST_NUMBERS" = some (.int 1000 t)
  n_NoGrammar : mg "NoGrammar" = some (.ref C.NoGrammar)
  n_NoRow : mg "NoRow" = some (.ref C.NoRow)
  n_TooGreat : mg "TooGreat" = some (.ref C.TooGreat)
  x_NoGrammar : Exc K C.NoGrammar
  x_NoRow : Exc K C.NoRow
  x_TooGreat : Exc K C.TooGreat
theorem nd_P1b_letter : (["letter"] : List Str).Nodup := by decide +kernel
theorem nd_P1b_part : (["part"] : List Str).Nodup := by decide +kernel
section
variable {P : Program} {w : World} {K : PySem.W.Frag} {mg : Str → Option Value} {base : Heap} {C : Adr}
theorem sc_is_whole : FnScope ["thing"] ["thing"] (defScope s_is_whole) := ⟨rfl, rfl, rfl, by decide +kernel, rfl, by decide +kernel, by decide +kernel⟩
theorem ok_is_whole {f : Addr} {fd : FuncData} (F : Fun K "is_whole" "is_whole" s_is_whole f fd) (T : Txt K mg C) : FnOk P w K mg base CX0 1 f fd ["thing"] (spIs isWholeD) := by
  refine F.ok sc_is_whole (fun vs H Q E h => ?_) (fun cdv A outer s H vs Q E hr h => ?_)
  · obtain ⟨x, d, rfl, _⟩ := h
    rfl
  · obtain ⟨x, d, rfl, den, sh, hp, q⟩ := h
    refine ⟨_, (pss_one (ps_ret (pe_and (pe_callB (call_isiK K rfl) (by rfl) T.z_isinstance PyProof.Rows.Boot.«isinstance» (pa_cons (pv 0) (pa_cons (pe_bltn (v := .ty "int") (by rfl) T.z_int PyProof.Rows.Boot.«int» rfl) pa_nil))) (pe_one (pe_not (pe_callB (call_isiK K rfl) (by rfl) T.z_isinstance PyProof.Rows.Boot.«isinstance» (pa_cons (pv 0) (pa_cons (pe_bltn (v := .ty "bool") (by rfl) T.z_bool PyProof.Rows.Boot.«bool» rfl) pa_nil)))))))), ?_⟩
    refine ⟨_, rfl, _, _, _, _, _, rfl, den.ty, rfl, kit_int d, _, rfl, ?_⟩
    refine and_read (g := !isBoolD d) (fun _ R hR => ⟨_, rfl, _, _, _, _, _, rfl, den.ty, rfl, kit_bool d, _, rfl, hR⟩) ?_
    cases d <;> exact q
theorem sc_stands_in_texts : FnScope ["sign", "code"] ["sign"] (defScope s_stands_in_texts) := ⟨rfl, rfl, rfl, by decide +kernel, rfl, by decide +kernel, by decide +kernel⟩
theorem ok_stands_in_texts {f : Addr} {fd : FuncData} (F : Fun K "stands_in_texts" "stands_in_texts" s_stands_in_texts f fd) (T : Txt K mg C) : FnOk P w K mg base CX0 1 f fd ["sign"] (spStands) := by
  obtain ⟨t_FIRST_CODE, g_FIRST_CODE⟩ := T.g_FIRST_CODE
  obtain ⟨t_LAST_CODE, g_LAST_CODE⟩ := T.g_LAST_CODE
  obtain ⟨t_PERCENT_CODE, g_PERCENT_CODE⟩ := T.g_PERCENT_CODE
  refine F.ok sc_stands_in_texts (fun vs H Q E h => ?_) (fun cdv A outer s H vs Q E hr h => ?_)
  · obtain ⟨c, rfl, _⟩ := h
    rfl
  · obtain ⟨c, rfl, q⟩ := h
    refine ⟨_, (pss_cons (ps_set (i := 1) sc_stands_in_texts.nd rfl (Or.inl rfl) (pe_callB call_ord (by rfl) T.z_ord PyProof.Rows.Boot.«ord» (pa_cons (pv 0) pa_nil)))
      (pss_one (ps_ret (pe_and (pe_chain op_le op_le (pe_glob (v := .int 32) (by rfl) g_FIRST_CODE ⟨_, rfl⟩) (pv 1) (pe_glob (v := .int 126) (by rfl) g_LAST_CODE ⟨_, rfl⟩)) (pe_one (pe_cmpR op_ne (pv 1) (pe_glob (v := .int 37) (by rfl) g_PERCENT_CODE ⟨_, rfl⟩) (nomark _))))))), ?_⟩
    refine ⟨_, rfl, _, rfl, rfl, ?_⟩
    refine ⟨_, rfl, _, _, rfl, rfl, _, rfl, ?_⟩
    have ec : (((⟨#[c]⟩ : Str).cps.getD 0 0 : Nat) : Int) = (c : Int) := rfl
    rw [ec]
    refine ite2 (fun h1 => ?_) fun h1 => ?_
    · refine ⟨_, _, rfl, rfl, _, rfl, ?_⟩
      refine ite2 (fun h2 => ?_) fun h2 => ?_
      · refine ⟨_, rfl, rfl, ?_⟩
        have e : (!decide (V.int (c : Int) = V.int 37)) = good c := by
          simp only [decide_eq_true_eq] at h1 h2
          unfold good
          have a1 : 32 ≤ c := by omega
          have a2 : c ≤ 126 := by omega
          rw [decide_eq_true a1, decide_eq_true a2]
          by_cases h3 : c = 37
          · subst h3; rfl
          · rw [decide_eq_false h3, decide_eq_false (fun z => h3 (by have := V.int.inj z; omega))]; rfl
        rw [e]
        exact q
      · have e : good c = false := by
          simp only [decide_eq_true_eq] at h2
          unfold good
          rw [decide_eq_false (show ¬ c ≤ 126 by omega)]
          simp
        rw [e] at q
        exact q
    · refine ⟨_, rfl, iteF ?_⟩
      have e : good c = false := by
        simp only [decide_eq_true_eq] at h1
        unfold good
        rw [decide_eq_false (show ¬ 32 ≤ c by omega)]
        simp
      rw [e] at q
      exact q
theorem first39 (z : Str) : decide (V.str ⟨#[z.cps.getD 0 0]⟩ = V.str "'") = decide (z.cps.getD 0 0 = 39) := by
  by_cases h : z.cps.getD 0 0 = 39
  · rw [h]; decide +kernel
  · rw [decide_eq_false h, decide_eq_false]
    intro e
    apply h
    have e6 : (({ cps := #[z.cps.getD 0 0] } : Str)).cps.getD 0 0 = (("'" : Str)).cps.getD 0 0 := congrArg (fun s : Str => s.cps.getD 0 0) (V.str.inj e)
    exact (show z.cps.getD 0 0 = (({ cps := #[z.cps.getD 0 0] } : Str)).cps.getD 0 0 from rfl).trans (e6.trans (by decide +kernel))
theorem sc_is_sign : FnScope ["thing"] ["thing"] (defScope s_is_sign) := ⟨rfl, rfl, rfl, by decide +kernel, rfl, by decide +kernel, by decide +kernel⟩
theorem ok_is_sign {f : Addr} {fd : FuncData} (F : Fun K "is_sign" "is_sign" s_is_sign f fd) (T : Txt K mg C) (U_stands_in_texts : Used P w K mg CX0 1 "stands_in_texts" ["sign"] (spStands)) : FnOk P w K mg base CX0 2 f fd ["thing"] (spIs isSignD) := by
  obtain ⟨f_stands_in_texts, fd_stands_in_texts, G_stands_in_texts, m_stands_in_texts, k_stands_in_texts, b_stands_in_texts⟩ := U_stands_in_texts.ok
  refine F.ok sc_is_sign (fun vs H Q E h => ?_) (fun cdv A outer s H vs Q E hr h => ?_)
  · obtain ⟨x, d, rfl, _⟩ := h
    rfl
  · obtain ⟨x, d, rfl, den, sh, hp, q⟩ := h
    refine ⟨_, (pss_one (ps_ret (pe_and (pe_callB (call_isiK K rfl) (by rfl) T.z_isinstance PyProof.Rows.Boot.«isinstance» (pa_cons (pv 0) (pa_cons (pe_bltn (v := .ty "str") (by rfl) T.z_str PyProof.Rows.Boot.«str» rfl) pa_nil))) (pe_and (pe_cmpR op_eq (pe_callB call_len_str (by rfl) T.z_len PyProof.Rows.Boot.«len» (pa_cons (pv 0) pa_nil)) pe_int (nomark _)) (pe_and (pe_cmpR op_eq (pe_ix ix_str (pv 0) pe_int (fun _ _ => rfl)) pe_str (nomark _)) (pe_one (pe_call (G_stands_in_texts base) (hr.mono (by decide)) (by rfl) m_stands_in_texts k_stands_in_texts b_stands_in_texts .nil pass0 (pa_cons (pe_ix ix_str (pv 0) pe_int (fun _ _ => rfl)) pa_nil)))))))), ?_⟩
    refine ⟨_, rfl, _, _, _, _, _, rfl, den.ty, rfl, kit_str d, _, rfl, ?_⟩
    cases d with
    | str z =>
      have ex := den.to_str
      subst ex
      have hz := short_line sh
      have ev : isSignD (.str z) = (z.cps.size == 2 && z.cps[0]? == some 39 && good (z.cps.getD 1 0)) := rfl
      refine iteT ?_
      refine ⟨_, rfl, z, rfl, hz, rfl, _, rfl, ?_⟩
      refine and_read (g := decide (z.cps.getD 0 0 = 39) && good (z.cps.getD 1 0)) (fun h2 R hR => ?_) ?_
      · have hs : z.cps.size = 2 := by
          have e := V.int.inj (of_decide_eq_true h2)
          rw [size_len] at e
          omega
        have g0 : z.cps.toList[0]? = some (z.cps.getD 0 0) := by
          rw [Array.getElem?_toList]; simp [hs]
        have g1 : z.cps.toList[1]? = some (z.cps.getD 1 0) := by
          rw [Array.getElem?_toList]; simp [hs]
        refine ⟨_, rfl, z, 0, _, rfl, rfl, hz, atI_nat (j := 0) g0, rfl, _, rfl, ?_⟩
        rw [first39]
        exact and_read (g := good (z.cps.getD 1 0)) (fun _ R hR => ⟨_, rfl, z, 1, _, rfl, rfl, hz, atI_nat (j := 1) g1, _, rfl, hR⟩) hR
      · have e2 : (decide (V.int (z.length : Int) = V.int 2) && (decide (z.cps.getD 0 0 = 39) && good (z.cps.getD 1 0))) = isSignD (.str z) := by
          rw [ev, size_len, Bool.and_assoc]
          by_cases h2 : z.cps.size = 2
          · have g0 : z.cps[0]? = some (z.cps.getD 0 0) := by simp [h2]
            have e4 : (some (z.cps.getD 0 0) == some 39) = decide (z.cps.getD 0 0 = 39) := by
              rw [Bool.eq_iff_iff]; simp
            rw [g0, e4]
            congr 1
            rw [h2]; decide
          · rw [decide_eq_false (fun e => h2 (by have := V.int.inj e; omega)), beq_eq_false_iff_ne.mpr h2]
            rfl
        rw [e2]
        exact q
    | _ => exact iteF q
theorem sc_is_name : FnScope ["thing"] ["thing"] (defScope s_is_name) := ⟨rfl, rfl, rfl, by decide +kernel, rfl, by decide +kernel, by decide +kernel⟩
theorem ok_is_name {f : Addr} {fd : FuncData} (F : Fun K "is_name" "is_name" s_is_name f fd) (T : Txt K mg C) : FnOk P w K mg base CX0 1 f fd ["thing"] (spIs isNameD) := by
  obtain ⟨t_MOST_LETTERS, g_MOST_LETTERS⟩ := T.g_MOST_LETTERS
  refine F.ok sc_is_name (fun vs H Q E h => ?_) (fun cdv A outer s H vs Q E hr h => ?_)
  · obtain ⟨x, d, rfl, _⟩ := h
    rfl
  · obtain ⟨x, d, rfl, den, sh, hp, q⟩ := h
    refine ⟨_, (pss_cons (ps_if (pt_not (pt_val (pe_callB (call_isiK K rfl) (by rfl) T.z_isinstance PyProof.Rows.Boot.«isinstance» (pa_cons (pv 0) (pa_cons (pe_bltn (v := .ty "str") (by rfl) T.z_str PyProof.Rows.Boot.«str» rfl) pa_nil))))) (pss_one (ps_ret pe_bl)) pss_nil)
      (pss_one (ps_ret (pe_and (pe_chain op_le op_le pe_int (pe_callB call_len_str (by rfl) T.z_len PyProof.Rows.Boot.«len» (pa_cons (pv 0) pa_nil)) (pe_glob (v := .int 8) (by rfl) g_MOST_LETTERS ⟨_, rfl⟩)) (pe_one (pe_pure (pe_callB (call_allK K rfl rfl) (by rfl) T.z_all PyProof.Rows.Boot.«all» (pa_cons (pe_comp (N := ["letter"]) (ρ := [none]) (cl := []) rfl (CompScope.plain rfl (by decide +kernel) (by decide +kernel) rfl (by simp)) (pi_str (pv 0)) (fun _ _ _ _ _ => (pg_name (i := 0) nd_P1b_letter rfl (Or.inl rfl) (.inr rfl))) (fun _ _ _ _ _ => pts_nil) (fun _ _ _ _ _ => (pe_chain op_le_str op_le_str pe_str (pv 0) pe_str))) pa_nil)))))))), ?_⟩
    refine ⟨_, rfl, _, _, _, _, _, rfl, den.ty, rfl, kit_str d, _, rfl, ?_⟩
    cases d with
    | str z =>
      have ex := den.to_str
      subst ex
      have hz := short_line sh
      have ev : isNameD (.str z) = (decide (1 ≤ z.cps.size) && decide (z.cps.size ≤ 8) && z.cps.toList.all letter) := rfl
      refine iteF ?_
      refine ⟨_, rfl, z, rfl, hz, _, _, rfl, rfl, _, rfl, ?_⟩
      refine ite2 (fun h1 => ?_) fun h1 => ?_
      · refine ⟨_, _, rfl, rfl, _, rfl, ?_⟩
        have h1' : 1 ≤ z.cps.size := by have := of_decide_eq_true h1; rw [size_len] at this; omega
        refine ite2 (fun h2 => ?_) fun h2 => ?_
        · have h2' : z.cps.size ≤ 8 := by have := of_decide_eq_true h2; rw [size_len] at this; omega
          refine ⟨hp, _, rfl, z, rfl, fun l hl => ?_⟩
          refine comp_str (τ := pick [none] _) (fun c => .bl (letter c)) hl Nat.zero_lt_one hz (fun τ' c H' R hτ _ hR => ?_) ?_
          · refine ⟨_, hτ, _, _, rfl, rfl, _, rfl, ?_⟩
            rw [le_A]
            refine ite2 (fun h3 => ?_) fun h3 => ?_
            · refine ⟨_, _, rfl, rfl, ?_⟩
              rw [le_Z]
              have e5 : letter c = decide (c ≤ 90) := by unfold letter; rw [h3]; rfl
              rw [e5] at hR
              exact hR
            · have e5 : letter c = false := by
                unfold letter
                cases hh : decide (65 ≤ c) with
                | false => rfl
                | true => exact absurd hh h3
              rw [e5] at hR
              exact hR
          · refine ⟨l, z.cps.toList.map letter, rfl, .inl (.inl ?_), fun b o eb => ?_, ?_⟩
            · rw [upd_same, map_bl]
            · rw [upd_ne (ne_of_none eb hl)]; exact eb
            · rw [all_map_id]
              rw [ev, decide_eq_true h1', decide_eq_true h2'] at q
              simpa using q
        · have h2' : ¬ z.cps.size ≤ 8 := fun z' => h2 (decide_eq_true (by rw [size_len]; omega))
          rw [ev, decide_eq_false h2'] at q
          simpa using q
      · have h1' : ¬ 1 ≤ z.cps.size := fun z' => h1 (decide_eq_true (by rw [size_len]; omega))
        refine ⟨_, rfl, iteF ?_⟩
        rw [ev, decide_eq_false h1'] at q
        simpa using q
    | _ => exact iteT q
theorem sc_is_part : FnScope ["thing"] ["thing"] (defScope s_is_part) := ⟨rfl, rfl, rfl, by decide +kernel, rfl, by decide +kernel, by decide +kernel⟩
theorem ok_is_part {f : Addr} {fd : FuncData} (F : Fun K "is_part" "is_part" s_is_part f fd) (T : Txt K mg C) (U_is_sign : Used P w K mg CX0 2 "is_sign" ["thing"] (spIs isSignD)) (U_is_name : Used P w K mg CX0 1 "is_name" ["thing"] (spIs isNameD)) : FnOk P w K mg base CX0 3 f fd ["thing"] (spIs isPartD) := by
  obtain ⟨f_is_sign, fd_is_sign, G_is_sign, m_is_sign, k_is_sign, b_is_sign⟩ := U_is_sign.ok
  obtain ⟨f_is_name, fd_is_name, G_is_name, m_is_name, k_is_name, b_is_name⟩ := U_is_name.ok
  refine F.ok sc_is_part (fun vs H Q E h => ?_) (fun cdv A outer s H vs Q E hr h => ?_)
  · obtain ⟨x, d, rfl, _⟩ := h
    rfl
  · obtain ⟨x, d, rfl, den, sh, hp, q⟩ := h
    refine ⟨_, (pss_one (ps_ret (pe_or (pe_call (G_is_sign base) (hr.mono (by decide)) (by rfl) m_is_sign k_is_sign b_is_sign .nil pass0 (pa_cons (pv 0) pa_nil)) (pe_one (pe_call (G_is_name base) (hr.mono (by decide)) (by rfl) m_is_name k_is_name b_is_name .nil pass0 (pa_cons (pv 0) pa_nil)))))), ?_⟩
    refine ⟨_, rfl, x, d, rfl, den, sh, hp, _, rfl, ?_⟩
    exact or_read (g := isNameD d) (fun _ R hR => ⟨_, rfl, x, d, rfl, den, sh, hp, hR⟩) q
theorem sc_is_worth : FnScope ["thing"] ["thing"] (defScope s_is_worth) := ⟨rfl, rfl, rfl, by decide +kernel, rfl, by decide +kernel, by decide +kernel⟩
theorem ok_is_worth {f : Addr} {fd : FuncData} (F : Fun K "is_worth" "is_worth" s_is_worth f fd) (T : Txt K mg C) (U_is_whole : Used P w K mg CX0 1 "is_whole" ["thing"] (spIs isWholeD)) : FnOk P w K mg base CX0 2 f fd ["thing"] (spIs isWorthD) := by
  obtain ⟨f_is_whole, fd_is_whole, G_is_whole, m_is_whole, k_is_whole, b_is_whole⟩ := U_is_whole.ok
  refine F.ok sc_is_worth (fun vs H Q E h => ?_) (fun cdv A outer s H vs Q E hr h => ?_)
  · obtain ⟨x, d, rfl, _⟩ := h
    rfl
  · obtain ⟨x, d, rfl, den, sh, hp, q⟩ := h
    refine ⟨_, (pss_one (ps_ret (pe_and (pe_call (G_is_whole base) (hr.mono (by decide)) (by rfl) m_is_whole k_is_whole b_is_whole .nil pass0 (pa_cons (pv 0) pa_nil)) (pe_one (pe_chain op_le op_le pe_int (pv 0) (pe_op op_pow pe_int pe_int)))))), ?_⟩
    refine ⟨_, rfl, x, d, rfl, den, sh, hp, _, rfl, ?_⟩
    cases d with
    | int i =>
      have ex := den.to_int
      subst ex
      have ev : isWorthD (.int i) = (decide (0 ≤ i) && decide (i ≤ 10 ^ 60)) := rfl
      refine iteT ?_
      refine ⟨_, rfl, _, _, rfl, rfl, _, rfl, ?_⟩
      refine ite2 (fun h1 => ?_) fun h1 => ?_
      · refine ⟨_, _, rfl, rfl, ⟨by decide, by decide, by decide⟩, _, _, rfl, rfl, ?_⟩
        rw [ev, h1] at q
        exact q
      · have h1' : decide (0 ≤ i) = false := by
          cases hh : decide (0 ≤ i) with
          | false => rfl
          | true => exact absurd hh h1
        rw [ev, h1'] at q
        exact q
    | _ => exact iteF q
theorem sc_are_parts : FnScope ["thing"] ["thing"] (defScope s_are_parts) := ⟨rfl, rfl, rfl, by decide +kernel, rfl, by decide +kernel, by decide +kernel⟩
theorem ok_are_parts {f : Addr} {fd : FuncData} (F : Fun K "are_parts" "are_parts" s_are_parts f fd) (T : Txt K mg C) (U_is_part : Used P w K mg CX0 3 "is_part" ["thing"] (spIs isPartD)) : FnOk P w K mg base CX0 4 f fd ["thing"] (spIs arePartsD) := by
  obtain ⟨f_is_part, fd_is_part, G_is_part, m_is_part, k_is_part, b_is_part⟩ := U_is_part.ok
  obtain ⟨t_MOST_PARTS, g_MOST_PARTS⟩ := T.g_MOST_PARTS
  refine F.ok sc_are_parts (fun vs H Q E h => ?_) (fun cdv A outer s H vs Q E hr h => ?_)
  · obtain ⟨x, d, rfl, _⟩ := h
    rfl
  · obtain ⟨x, d, rfl, den, sh, hp, q⟩ := h
    refine ⟨_, (pss_cons (ps_if (pt_not (pt_val (pe_callB (call_isiK K rfl) (by rfl) T.z_isinstance PyProof.Rows.Boot.«isinstance» (pa_cons (pv 0) (pa_cons (pe_bltn (v := .ty "tuple") (by rfl) T.z_tuple PyProof.Rows.Boot.«tuple» rfl) pa_nil))))) (pss_one (ps_ret pe_bl)) pss_nil)
      (pss_one (ps_ret (pe_and (pe_cmpR op_le (pe_callB (call_len_seqK K rfl) (by rfl) T.z_len PyProof.Rows.Boot.«len» (pa_cons (pv 0) pa_nil)) (pe_glob (v := .int 6) (by rfl) g_MOST_PARTS ⟨_, rfl⟩) (nomark _)) (pe_one (pe_pure (pe_callB (call_allK K rfl rfl) (by rfl) T.z_all PyProof.Rows.Boot.«all» (pa_cons (pe_comp (N := ["part"]) (ρ := [none]) (cl := []) rfl (CompScope.plain rfl (by decide +kernel) (by decide +kernel) rfl (by simp)) (pi_tupK K rfl (pv 0)) (fun _ _ _ _ _ => (pg_name (i := 0) nd_P1b_part rfl (Or.inl rfl) (.inr rfl))) (fun _ _ _ _ _ => pts_nil) (fun _ _ _ _ _ => (pe_call (G_is_part base) (hr.mono (by decide)) (by rfl) m_is_part k_is_part b_is_part .nil pass0 (pa_cons (pv 0) pa_nil)))) pa_nil)))))))), ?_⟩
    refine ⟨_, rfl, _, _, _, _, _, rfl, den.ty, rfl, kit_tuple d, _, rfl, ?_⟩
    cases d with
    | tup ds =>
      obtain ⟨a, xs, rfl, ha, hds⟩ := den.to_tup
      have hl : xs.length = ds.length := hds.len
      refine iteF ?_
      refine ⟨_, rfl, a, xs, rfl, .inr (SqT.of ha), _, _, rfl, rfl, _, rfl, ?_⟩
      have shS : shortS ds = true := by unfold D.short at sh; exact sh
      have e1 : decide ((xs.length : Int) ≤ 6) = decide (ds.length ≤ 6) := by rw [hl]; congr 1; exact propext ⟨fun h => by omega, fun h => by omega⟩
      rw [e1]
      refine and_read (g := ds.all isPartD) (fun h1 R hR => ?_) q
      have h1' : ds.length ≤ 6 := of_decide_eq_true h1
      refine ⟨hp, _, rfl, a, rfl, ⟨xs, SqT.of ha⟩, fun l hln => ?_⟩
      refine comp_items (n := xs.length) 0 (fun k y _ => ∃ d, ds[k]? = some d ∧ y = .bl (isPartD d)) (gives_tup (SqT.of ha)) (fun _ _ _ _ _ h => h) hp hln Nat.zero_lt_one (line1000 (by omega)) (fun τ' => 0 < τ'.length) Nat.zero_lt_one (fun τ' v h => by rw [List.length_set]; exact h) ?_ ?_
      · intro τ' k y H' R _ hτ hit hk hs hp' hlne hR
        obtain ⟨d, hd, dn⟩ := hds.get hit
        exact ⟨_, hτ, y, d, rfl, dn.same hs, shortS_mem shS (List.mem_of_getElem? hd), hp', hR _ _ (Same.refl _) hp' ⟨d, hd, rfl⟩⟩
      · intro ys H' hy hP hs hp' hl'
        have e2 : ys = (ds.map isPartD).map V.bl := bls_of (by rw [hy, hl]) hP
        refine ⟨l, ds.map isPartD, rfl, .inl (.inl (by rw [hl', e2])), hs, ?_⟩
        rw [all_map_id]
        exact hR
    | _ => exact iteT q
theorem sc_is_rule : FnScope ["thing"] ["thing"] (defScope s_is_rule) := ⟨rfl, rfl, rfl, by decide +kernel, rfl, by decide +kernel, by decide +kernel⟩
theorem ok_is_rule {f : Addr} {fd : FuncData} (F : Fun K "is_rule" "is_rule" s_is_rule f fd) (T : Txt K mg C) (U_is_name : Used P w K mg CX0 1 "is_name" ["thing"] (spIs isNameD)) (U_are_parts : Used P w K mg CX0 4 "are_parts" ["thing"] (spIs arePartsD)) (U_is_worth : Used P w K mg CX0 2 "is_worth" ["thing"] (spIs isWorthD)) : FnOk P w K mg base CX0 5 f fd ["thing"] (spIs isRuleD) := by
  obtain ⟨f_is_name, fd_is_name, G_is_name, m_is_name, k_is_name, b_is_name⟩ := U_is_name.ok
  obtain ⟨f_are_parts, fd_are_parts, G_are_parts, m_are_parts, k_are_parts, b_are_parts⟩ := U_are_parts.ok
  obtain ⟨f_is_worth, fd_is_worth, G_is_worth, m_is_worth, k_is_worth, b_is_worth⟩ := U_is_worth.ok
  refine F.ok sc_is_rule (fun vs H Q E h => ?_) (fun cdv A outer s H vs Q E hr h => ?_)
  · obtain ⟨x, d, rfl, _⟩ := h
    rfl
  · obtain ⟨x, d, rfl, den, sh, hp, q⟩ := h
    refine ⟨_, (pss_cons (ps_if (PW.pt (pw_or (pt_not (pt_val (pe_callB (call_isiK K rfl) (by rfl) T.z_isinstance PyProof.Rows.Boot.«isinstance» (pa_cons (pv 0) (pa_cons (pe_bltn (v := .ty "tuple") (by rfl) T.z_tuple PyProof.Rows.Boot.«tuple» rfl) pa_nil))))) (pw_or1 (pt_cmpR op_ne (pe_callB (call_len_seqK K rfl) (by rfl) T.z_len PyProof.Rows.Boot.«len» (pa_cons (pv 0) pa_nil)) pe_int (nomark _))))) (pss_one (ps_ret pe_bl)) pss_nil)
      (pss_one (ps_ret (pe_and (pe_call (G_is_name base) (hr.mono (by decide)) (by rfl) m_is_name k_is_name b_is_name .nil pass0 (pa_cons (pe_ix (ix_tupK K rfl) (pv 0) pe_int (fun _ _ => rfl)) pa_nil)) (pe_and (pe_call (G_are_parts base) (hr.mono (by decide)) (by rfl) m_are_parts k_are_parts b_are_parts .nil pass0 (pa_cons (pe_ix (ix_tupK K rfl) (pv 0) pe_int (fun _ _ => rfl)) pa_nil)) (pe_one (pe_call (G_is_worth base) (hr.mono (by decide)) (by rfl) m_is_worth k_is_worth b_is_worth .nil pass0 (pa_cons (pe_ix (ix_tupK K rfl) (pv 0) pe_int (fun _ _ => rfl)) pa_nil)))))))), ?_⟩
    refine ⟨_, rfl, _, _, _, _, _, rfl, den.ty, rfl, kit_tuple d, _, rfl, ?_⟩
    cases d with
    | tup ds =>
      obtain ⟨a, xs, rfl, ha, hds⟩ := den.to_tup
      have hl : xs.length = ds.length := hds.len
      refine iteF ?_
      refine ⟨_, rfl, a, xs, rfl, .inr (SqT.of ha), rfl, _, rfl, ?_⟩
      have shS : shortS ds = true := by unfold D.short at sh; exact sh
      by_cases h3 : ds.length = 3
      · match ds, h3, xs, hl, hds, ha, q, shS with
        | [d0, d1, d2], _, [x0, x1, x2], _, hds, ha, q, shS =>
          have n0 := (hds.get (i := 0) (v := x0) rfl)
          have n1 := (hds.get (i := 1) (v := x1) rfl)
          have n2 := (hds.get (i := 2) (v := x2) rfl)
          obtain ⟨_, e0, n0⟩ := n0
          obtain ⟨_, e1, n1⟩ := n1
          obtain ⟨_, e2, n2⟩ := n2
          cases e0
          cases e1
          cases e2
          have sq : SqT K H a [x0, x1, x2] := SqT.of ha
          refine iteF ?_
          refine ⟨_, rfl, a, _, 0, x0, rfl, rfl, sq, rfl, x0, d0, rfl, n0, shortS_mem shS (by simp), hp, _, rfl, ?_⟩
          refine and_read (g := arePartsD d1 && isWorthD d2) (fun _ R hR => ?_) q
          refine ⟨_, rfl, a, _, 1, x1, rfl, rfl, sq, rfl, x1, d1, rfl, n1, shortS_mem shS (by simp), hp, _, rfl, ?_⟩
          exact and_read (g := isWorthD d2) (fun _ R hR => ⟨_, rfl, a, _, 2, x2, rfl, rfl, sq, rfl, x2, d2, rfl, n2, shortS_mem shS (by simp), hp, hR⟩) hR
      · have e1 : (!decide (V.int (xs.length : Int) = V.int 3)) = true := by
          rw [decide_eq_false]
          · rfl
          · intro e
            have := V.int.inj e
            omega
        rw [e1]
        refine iteT ?_
        have e2 : isRuleD (.tup ds) = false := by
          match ds, h3 with
          | [], _ => rfl
          | [_], _ => rfl
          | [_, _], _ => rfl
          | [_, _, _], h => exact absurd rfl h
          | _ :: _ :: _ :: _ :: _, _ => rfl
        rw [e2] at q
        exact q
    | _ => exact iteT q
end
end FR


set_option linter.all false
set_option maxRecDepth 100000
set_option maxHeartbeats 4000000
namespace FR
open PySem L2
theorem nd_P1c_rule : (["rule"] : List Str).Nodup := by decide +kernel
section
variable {P : Program} {w : World} {K : PySem.W.Frag} {mg : Str → Option Value} {base : Heap} {C : Adr}
theorem sc_is_grammar : FnScope ["thing"] ["thing"] (defScope s_is_grammar) := ⟨rfl, rfl, rfl, by decide +kernel, rfl, by decide +kernel, by decide +kernel⟩
theorem ok_is_grammar {f : Addr} {fd : FuncData} (F : Fun K "is_grammar" "is_grammar" s_is_grammar f fd) (T : Txt K mg C) (U_is_rule : Used P w K mg CX0 5 "is_rule" ["thing"] (spIs isRuleD)) : FnOk P w K mg base CX0 6 f fd ["thing"] (spIs isGramD) := by
  obtain ⟨f_is_rule, fd_is_rule, G_is_rule, m_is_rule, k_is_rule, b_is_rule⟩ := U_is_rule.ok
  obtain ⟨t_MOST_RULES, g_MOST_RULES⟩ := T.g_MOST_RULES
  refine F.ok sc_is_grammar (fun vs H Q E h => ?_) (fun cdv A outer s H vs Q E hr h => ?_)
  · obtain ⟨x, d, rfl, _⟩ := h
    rfl
  · obtain ⟨x, d, rfl, den, sh, hp, q⟩ := h
    refine ⟨_, (pss_cons (ps_if (pt_not (pt_val (pe_callB (call_isiK K rfl) (by rfl) T.z_isinstance PyProof.Rows.Boot.«isinstance» (pa_cons (pv 0) (pa_cons (pe_bltn (v := .ty "list") (by rfl) T.z_list PyProof.Rows.Boot.«list» rfl) pa_nil))))) (pss_one (ps_ret pe_bl)) pss_nil)
      (pss_one (ps_ret (pe_and (pe_cmpR op_le (pe_callB (call_len_seqK K rfl) (by rfl) T.z_len PyProof.Rows.Boot.«len» (pa_cons (pv 0) pa_nil)) (pe_glob (v := .int 60) (by rfl) g_MOST_RULES ⟨_, rfl⟩) (nomark _)) (pe_one (pe_pure (pe_callB (call_allK K rfl rfl) (by rfl) T.z_all PyProof.Rows.Boot.«all» (pa_cons (pe_comp (N := ["rule"]) (ρ := [none]) (cl := []) rfl (CompScope.plain rfl (by decide +kernel) (by decide +kernel) rfl (by simp)) (pi_listK K rfl (pv 0)) (fun _ _ _ _ _ => (pg_name (i := 0) nd_P1c_rule rfl (Or.inl rfl) (.inr rfl))) (fun _ _ _ _ _ => pts_nil) (fun _ _ _ _ _ => (pe_call (G_is_rule base) (hr.mono (by decide)) (by rfl) m_is_rule k_is_rule b_is_rule .nil pass0 (pa_cons (pv 0) pa_nil)))) pa_nil)))))))), ?_⟩
    refine ⟨_, rfl, _, _, _, _, _, rfl, den.ty, rfl, kit_list d, _, rfl, ?_⟩
    cases d with
    | lst ds =>
      obtain ⟨a, xs, rfl, ha, hds⟩ := den.to_lst
      have hl : xs.length = ds.length := hds.len
      have sq : SqL K H a xs := .inl ha
      refine iteF ?_
      refine ⟨_, rfl, a, xs, rfl, .inl sq, _, _, rfl, rfl, _, rfl, ?_⟩
      have shS : shortS ds = true := by unfold D.short at sh; exact sh
      have e1 : decide ((xs.length : Int) ≤ 60) = decide (ds.length ≤ 60) := by rw [hl]; congr 1; exact propext ⟨fun h => by omega, fun h => by omega⟩
      rw [e1]
      refine and_read (g := ds.all isRuleD) (fun h1 R hR => ?_) q
      have h1' : ds.length ≤ 60 := of_decide_eq_true h1
      refine ⟨hp, _, rfl, a, rfl, ⟨xs, sq⟩, fun l hln => ?_⟩
      refine comp_items (n := xs.length) 0 (fun k y _ => ∃ d, ds[k]? = some d ∧ y = .bl (isRuleD d)) (gives_list sq) (fun _ _ _ _ _ h => h) hp hln Nat.zero_lt_one (line1000 (by omega)) (fun τ' => 0 < τ'.length) Nat.zero_lt_one (fun τ' v h => by rw [List.length_set]; exact h) ?_ ?_
      · intro τ' k y H' R _ hτ hit hk hs hp' hlne hR
        obtain ⟨d, hd, dn⟩ := hds.get hit
        exact ⟨_, hτ, y, d, rfl, dn.same hs, shortS_mem shS (List.mem_of_getElem? hd), hp', hR _ _ (Same.refl _) hp' ⟨d, hd, rfl⟩⟩
      · intro ys H' hy hP hs hp' hl'
        have e2 : ys = (ds.map isRuleD).map V.bl := bls_of (by rw [hy, hl]) hP
        refine ⟨l, ds.map isRuleD, rfl, .inl (.inl (by rw [hl', e2])), hs, ?_⟩
        rw [all_map_id]
        exact hR
    | _ => exact iteT q
theorem sc_checked : FnScope ["thing"] ["thing"] (defScope s_checked) := ⟨rfl, rfl, rfl, by decide +kernel, rfl, by decide +kernel, by decide +kernel⟩
theorem ok_checked {f : Addr} {fd : FuncData} (F : Fun K "checked" "checked" s_checked f fd) (T : Txt K mg C) (U_is_grammar : Used P w K mg CX0 6 "is_grammar" ["thing"] (spIs isGramD)) : FnOk P w K mg base (CXo P w) 7 f fd ["thing"] (spChecked C.NoGrammar) := by
  obtain ⟨f_is_grammar, fd_is_grammar, G_is_grammar, m_is_grammar, k_is_grammar, b_is_grammar⟩ := U_is_grammar.ok
  refine F.okX sc_checked (fun vs H Q E h => ?_) (fun cdv A outer s H vs Q E hr h => ?_)
  · obtain ⟨x, d, rfl, _⟩ := h
    rfl
  · obtain ⟨x, d, rfl, den, sh, hp, q1, q2⟩ := h
    refine ⟨_, (pss_cons (ps_if (pt_not (pt_val (pe_call (G_is_grammar base) (hr.mono (by decide)) (by rfl) m_is_grammar k_is_grammar b_is_grammar .nil pass0 (pa_cons (pv 0) pa_nil)))) (pss_one (ps_raise sink_def T.x_NoGrammar rfl (by rfl) T.n_NoGrammar (pa_cons pe_str pa_nil))) pss_nil)
      (pss_one (ps_ret (pe_callTy (call_list_ofK K rfl) (by rfl) T.z_list PyProof.Rows.Boot.«list» (pa_cons (pv 0) pa_nil))))), ?_⟩
    refine ⟨_, rfl, x, d, rfl, den, sh, hp, _, rfl, ?_⟩
    refine ite2 (fun hi => ?_) fun hi => ?_
    · exact ⟨line1000 (by decide), q2 (bool_false hi)⟩
    · have e := bool_true hi
      obtain ⟨g, rfl, hg⟩ := gram_of e
      obtain ⟨a, xs, rfl, ha, hds⟩ := den_gram den
      exact ⟨_, rfl, a, xs, rfl, .inl (.inl ha), fun l hl => q1 e l xs _ rfl hds hl⟩
end
end FR


set_option linter.all false
set_option maxRecDepth 100000
set_option maxHeartbeats 4000000
namespace FR
open PySem L2
abbrev s_size_of_part : Stmt := top 25
abbrev s_size_of_rule : Stmt := top 26
abbrev s_least_sizes : Stmt := top 27
abbrev s_least : Stmt := top 28
abbrev s_ways_down : Stmt := top 29
abbrev s_sizes_with : Stmt := top 30
abbrev s_needed : Stmt := top 31
abbrev s_smallest_rules : Stmt := top 32
abbrev s_smallest_row : Stmt := top 33
abbrev s_steps_to : Stmt := top 34
abbrev s_row_down : Stmt := top 35
abbrev s_row_with : Stmt := top 36

def unsz (kvs : List (Key × V)) : Sz := kvs.filterMap fun kv => match kv.1, kv.2 with
  | Sum.inr z, .int n => some (z, n)
  | _, _ => none
theorem unsz_szD : ∀ s : Sz, unsz (szD s) = s
  | [] => rfl
  | p :: s => by
    show unsz ((Sum.inr p.1, V.int p.2) :: szD s) = _
    unfold unsz
    rw [List.filterMap_cons]
    show p :: unsz (szD s) = _
    rw [unsz_szD s]
def kvsAt (H : Hp) (d : Addr) : List (Key × V) := match H d with
  | some (.dK kvs) => kvs
  | _ => []
def spSizeP : Sp := fun vs H Q _ => ∃ d s p q, vs = [.ref d, .str p, .int q] ∧ H d = some (.dK (szD s)) ∧ Q (oV (sizeP s q p)) H
def spSizeR : Sp := fun vs H Q _ => ∃ d s t q z p ps w, vs = [.ref d, .ref t, .int q] ∧ H d = some (.dK (szD s)) ∧ H t = some (.tup [.str z, .ref p, .int w]) ∧ H p = some (.tup (ps.map V.str)) ∧ Q (oV (sizeR s q ps)) H
def spLeastS : Sp := fun vs H Q _ => ∃ l xs g q, vs = [.ref l, .int q] ∧ H l = some (.lst xs) ∧ Dens H xs (g.map ruleD) ∧ okGram g = true ∧ 0 ≤ q ∧ Plain H ∧
  ∀ d s H', SzOk g q s → Fix g q s → H d = none → H' = upd H d (.dK (szD s)) → Q (.ref d) H'
def spLeast (C : Addr) : Sp := fun vs H Q E => ∃ x d, vs = [x] ∧ Den H x d ∧ d.short = true ∧ Plain H ∧
  (∀ g, d = gramD g → okGram g = true → ∀ l s H', SzOk g 0 s → Fix g 0 s → Same H H' → Plain H' → H l = none → H' l = some (.dK (szD s)) → Q (.ref l) H') ∧ (isGramD d = false → ∀ H', Same H H' → Plain H' → E (.ref C) none H')
theorem oV_get (o : Option Int) : (o.map V.int).getD .non = oV o := by cases o <;> rfl
section
variable {P : Program} {w : World} {K : PySem.W.Frag} {mg : Str → Option Value} {base : Heap} {C : Adr}
theorem sc_size_of_part : FnScope ["sizes", "part", "sign_size"] ["sizes", "part", "sign_size"] (defScope s_size_of_part) := ⟨rfl, rfl, rfl, by decide +kernel, rfl, by decide +kernel, by decide +kernel⟩
theorem ok_size_of_part {f : Addr} {fd : FuncData} (F : Fun K "size_of_part" "size_of_part" s_size_of_part f fd) (T : Txt K mg C) : FnOk P w K mg base CX0 1 f fd ["sizes", "part", "sign_size"] (spSizeP) := by
  refine F.ok sc_size_of_part (fun vs H Q E h => ?_) (fun cdv A outer s H vs Q E hr h => ?_)
  · obtain ⟨d, s, p, q, rfl, _⟩ := h
    rfl
  · obtain ⟨d, s, p, q, rfl, hd, k⟩ := h
    have hu := hu_of hr
    refine ⟨_, (pss_one (ps_ret (pe_ifExp (pt_val (pe_bmK K rfl PySem.F.plainAttrs_str PySem.F.slot_str_startswith PySem.F.type_str_startswith mt_str_startswith (pv 1) (pa_cons pe_str pa_nil))) (pv 2) (pe_dget1 hu (pv 0) (pv 1) ⟨rfl, rfl, rfl, rfl⟩)))), ?_⟩
    refine ⟨_, rfl, rfl, _, _, rfl, rfl, _, rfl, ?_⟩
    unfold sizeP isQ at k
    refine ite2 (fun h1 => ?_) fun h1 => ?_
    · rw [if_pos h1] at k
      exact ⟨_, rfl, k⟩
    · rw [if_neg h1] at k
      refine ⟨_, rfl, d, rfl, .inl ⟨_, .inl hd⟩, _, rfl, _, DGet.k (k := Sum.inr p) hd, ?_⟩
      rw [valV_szD, oV_get]
      exact k
theorem sc_size_of_rule : FnScope ["sizes", "rule", "sign_size", "size", "part", "more"] ["sizes", "rule", "sign_size"] (defScope s_size_of_rule) := ⟨rfl, rfl, rfl, by decide +kernel, rfl, by decide +kernel, by decide +kernel⟩
theorem ok_size_of_rule {f : Addr} {fd : FuncData} (F : Fun K "size_of_rule" "size_of_rule" s_size_of_rule f fd) (T : Txt K mg C) (U_size_of_part : Used P w K mg CX0 1 "size_of_part" ["sizes", "part", "sign_size"] (spSizeP)) : FnOk P w K mg base CX0 2 f fd ["sizes", "rule", "sign_size"] (spSizeR) := by
  obtain ⟨f_size_of_part, fd_size_of_part, G_size_of_part, m_size_of_part, k_size_of_part, b_size_of_part⟩ := U_size_of_part.ok
  refine F.ok sc_size_of_rule (fun vs H Q E h => ?_) (fun cdv A outer s H vs Q E hr h => ?_)
  · obtain ⟨d, s, t, q, z, p, ps, w, rfl, _⟩ := h
    rfl
  · obtain ⟨d, s, t, q, z, p, ps, w, rfl, hd, ht, hp, k⟩ := h
    refine ⟨_, (pss_cons (ps_set (i := 3) sc_size_of_rule.nd rfl (Or.inl rfl) pe_int)
      (pss_cons (ps_for PassesOwn.never rfl (pi_tupK K rfl (pe_ix (ix_tupK K rfl) (pv 1) pe_int (fun _ _ => rfl))) (pg_name (i := 4) sc_size_of_rule.nd rfl (Or.inl rfl)) (pss_cons (ps_set (i := 5) sc_size_of_rule.nd rfl (Or.inl rfl) (pe_call (G_size_of_part base) (hr.mono (by decide)) (by rfl) m_size_of_part k_size_of_part b_size_of_part .nil pass0 (pa_cons (pv 0) (pa_cons (pv 4) (pa_cons (pv 2) pa_nil)))))
      (pss_cons (ps_if (pt_cmpR op_isN (pv 5) pe_non (nomark _)) (pss_one (ps_ret pe_non)) pss_nil)
      (pss_one (ps_aug (i := 3) sc_size_of_rule.nd rfl (Or.inl rfl) (pv 5) ip_add)))))
      (pss_one (ps_ret (pv 3))))), ?_⟩
    refine ⟨_, rfl, t, _, 1, _, rfl, rfl, SqT.of ht, rfl, p, rfl, ⟨_, SqT.of hp⟩, for_tup (K := K) (a := p) (xs := ps.map V.str) (fun i σ H2 => H2 = H ∧ ∃ (acc : Int) (v v' : Option V), σ = [some (.ref d), some (.ref t), some (.int q), some (.int acc), v, v'] ∧ sizeG s q ps 1 = sizeG s q (ps.drop i) acc) ⟨rfl, 1, none, none, rfl, rfl⟩ ?_ ?_ ?_⟩
    · rintro i σ H2 _ ⟨rfl, _⟩
      exact SqT.of hp
    · rintro i y σ H2 hi ⟨rfl, acc, v, v', rfl, hz⟩
      rw [List.getElem?_map] at hi
      cases e : ps[i]? with
      | none => rw [e] at hi; cases hi
      | some x =>
        rw [e] at hi
        cases hi
        have ed : ps.drop i = x :: ps.drop (i + 1) := by
          obtain ⟨hlt, hx⟩ := List.getElem?_eq_some_iff.mp e
          rw [List.drop_eq_getElem_cons hlt, hx]
        rw [ed] at hz
        have hz2 : sizeG s q ps 1 = match sizeP s q x with | none => none | some m => sizeG s q (ps.drop (i + 1)) (acc + m) := hz
        refine ⟨_, rfl, _, rfl, _, rfl, d, s, x, q, rfl, hd, ?_⟩
        refine ⟨_, rfl, rfl, _, rfl, ?_⟩
        cases e2 : sizeP s q x with
        | none =>
          rw [e2] at hz2
          have : sizeR s q ps = none := hz2
          rw [this] at k
          exact iteT k
        | some m =>
          rw [e2] at hz2
          exact iteF ⟨_, rfl, _, rfl, _, _, rfl, rfl, rfl, _, _, _, rfl, hz2⟩
    · rintro σ H2 ⟨rfl, acc, v, v', rfl, hz⟩
      rw [List.length_map, List.drop_length] at hz
      have : sizeR s q ps = some acc := hz
      rw [this] at k
      exact ⟨_, rfl, k⟩
theorem sc_least_sizes : FnScope ["rules", "sign_size", "sizes", "shrinking", "rule", "size"] ["rules", "sign_size"] (defScope s_least_sizes) := ⟨rfl, rfl, rfl, by decide +kernel, rfl, by decide +kernel, by decide +kernel⟩
theorem ok_least_sizes {f : Addr} {fd : FuncData} (F : Fun K "least_sizes" "least_sizes" s_least_sizes f fd) (T : Txt K mg C) (U_size_of_rule : Used P w K mg CX0 2 "size_of_rule" ["sizes", "rule", "sign_size"] (spSizeR)) : FnOk P w K mg base CX0 3 f fd ["rules", "sign_size"] (spLeastS) := by
  obtain ⟨f_size_of_rule, fd_size_of_rule, G_size_of_rule, m_size_of_rule, k_size_of_rule, b_size_of_rule⟩ := U_size_of_rule.ok
  refine F.ok sc_least_sizes (fun vs H Q E h => ?_) (fun cdv A outer s H vs Q E hr h => ?_)
  · obtain ⟨l, xs, g, q, rfl, _⟩ := h
    rfl
  · obtain ⟨l, xs, g, q, rfl, hl, hds, hg, hq, hp, k⟩ := h
    have hu := hu_of hr
    have hg60 := gram_60 hg
    have hxl : xs.length = g.length := by rw [hds.len, List.length_map]
    refine ⟨_, (pss_cons (ps_set (i := 2) sc_least_sizes.nd rfl (Or.inl rfl) pe_dnewK)
      (pss_cons (ps_set (i := 3) sc_least_sizes.nd rfl (Or.inl rfl) pe_bl)
      (pss_cons (ps_while PassesOwn.never (pt_val (pv 3)) (pss_cons (ps_set (i := 3) sc_least_sizes.nd rfl (Or.inl rfl) pe_bl)
      (pss_one (ps_for PassesOwn.never rfl (pi_listK K rfl (pv 0)) (pg_name (i := 4) sc_least_sizes.nd rfl (Or.inl rfl)) (pss_cons (ps_set (i := 5) sc_least_sizes.nd rfl (Or.inl rfl) (pe_call (G_size_of_rule base) (hr.mono (by decide)) (by rfl) m_size_of_rule k_size_of_rule b_size_of_rule .nil pass0 (pa_cons (pv 2) (pa_cons (pv 4) (pa_cons (pv 1) pa_nil)))))
      (pss_one (ps_if (PW.pt (pw_and (pt_cmpR op_notN (pv 5) pe_non (nomark _)) (pw_and1 (PW.pt (pw_or (pt_cmp (pc_dnotin hu (pe_ix (ix_tupK K rfl) (pv 4) pe_int (fun _ _ => rfl)) (pv 2))) (pw_or1 (pt_cmpR op_lt (pv 5) (pe_dget hu (pv 2) (pe_ix (ix_tupK K rfl) (pv 4) pe_int (fun _ _ => rfl)) (fun _ _ => rfl)) (nomark _)))))))) (pss_cons (ps_dput hu (pv 2) (pe_ix (ix_tupK K rfl) (pv 4) pe_int (fun _ _ => rfl)) (pv 5) rfl)
      (pss_one (ps_set (i := 3) sc_least_sizes.nd rfl (Or.inl rfl) pe_bl))) pss_nil)))))))
      (pss_one (ps_ret (pv 2)))))), ?_⟩
    intro d hd
    have ndl : d ≠ l := fun z => by rw [z, hl] at hd; cases hd
    refine while_by (fun σ H2 => ∃ (s : Sz) (b : Bool) (v4 v5 : Option V), H2 = upd H d (.dK (szD s)) ∧ SzOk g q s ∧ (b = false → Fix g q s) ∧ σ = [some (.ref l), some (.int q), some (.ref d), some (.bl b), v4, v5])
      (fun σ H2 => 2 * mu g q (unsz (kvsAt H2 d)) + (if σ[3]? = some (some (.bl true)) then 1 else 0)) ⟨[], true, none, none, rfl, SzOk.nil g q, (fun e => nomatch e), rfl⟩ ?_ ?_
    · rintro σ H2 ⟨s, b, v4, v5, rfl, hok, hfix, rfl⟩
      refine ⟨_, rfl, b, rfl, ?_⟩
      cases b with
      | false =>
        refine iteF ?_
        exact ⟨_, rfl, k d s _ hok (hfix rfl) hd rfl⟩
      | true =>
        refine iteT ?_
        have hl2 : ∀ {o : HO}, upd H d o l = some (.lst xs) := fun {o} => by rw [upd_ne ndl.symm]; exact hl
        have ekv : ∀ s, kvsAt (upd H d (.dK (szD s))) d = szD s := fun s => by unfold kvsAt; rw [upd_same]
        refine ⟨_, rfl, l, rfl, ⟨_, SqL.of hl2⟩, for_list (K := K) (a := l) (xs := xs) (fun i σ H2 => ∃ (s' : Sz) (b : Bool) (v4 v5 : Option V), H2 = upd H d (.dK (szD s')) ∧ SzOk g q s' ∧ (b = false → s' = s ∧ ∀ r ∈ g.take i, ∀ m, sizeR s q r.2.1 = some m → ∃ v, look s r.1 = some v ∧ v ≤ m) ∧ (b = true → mu g q s' < mu g q s) ∧ σ = [some (.ref l), some (.int q), some (.ref d), some (.bl b), v4, v5])
          ⟨s, false, v4, v5, rfl, hok, (fun _ => ⟨rfl, fun r hr => by cases hr⟩), (fun e => nomatch e), rfl⟩ ?_ ?_ ?_⟩
        · rintro i σ H2 _ ⟨s', b, v4, v5, rfl, _⟩
          exact SqL.of hl2
        · rintro i y σ H2 hi ⟨s', b, v4, v5, rfl, hok', hb0, hb1, rfl⟩
          obtain ⟨r, t, p, er, rfl, ht, hpp⟩ := rule_at hds hi
          have nt : t ≠ d := fun z => by rw [z, hd] at ht; cases ht
          have np : p ≠ d := fun z => by rw [z, hd] at hpp; cases hpp
          have hrm : r ∈ g := List.mem_of_getElem? er
          have ht2 : ∀ {o : HO}, upd H d o t = some (.tup [.str r.1, .ref p, .int r.2.2]) := fun {o} => by rw [upd_ne nt]; exact ht
          have hp2 : ∀ {o : HO}, upd H d o p = some (.tup (r.2.1.map V.str)) := fun {o} => by rw [upd_ne np]; exact hpp
          have et : g.take (i + 1) = g.take i ++ [r] := by rw [List.take_add_one, er]; rfl
          refine ⟨_, rfl, _, rfl, _, rfl, d, s', t, q, r.1, p, r.2.1, r.2.2, rfl, upd_same, ht2, hp2, ?_⟩
          refine ⟨_, rfl, rfl, _, rfl, ?_⟩
          -- what stays
          have stay : ∀ (o : Option Int), sizeR s' q r.2.1 = o → (∀ m, o = some m → ∃ v, look s' r.1 = some v ∧ v ≤ m) → ∃ (s'' : Sz) (b' : Bool) (w4 w5 : Option V), upd H d (.dK (szD s')) = upd H d (.dK (szD s'')) ∧ SzOk g q s'' ∧ (b' = false → s'' = s ∧ ∀ r ∈ g.take (i + 1), ∀ m, sizeR s q r.2.1 = some m → ∃ v, look s r.1 = some v ∧ v ≤ m) ∧ (b' = true → mu g q s'' < mu g q s) ∧ [some (.ref l), some (.int q), some (.ref d), some (.bl b), some (.ref t), some (oV o)] = [some (.ref l), some (.int q), some (.ref d), some (.bl b'), w4, w5] := fun o ho hv => by
            refine ⟨s', b, _, _, rfl, hok', fun e => ?_, hb1, rfl⟩
            obtain ⟨e1, e2⟩ := hb0 e
            refine ⟨e1, fun x hx m hm => ?_⟩
            rw [et] at hx
            rcases List.mem_append.mp hx with hx | hx
            · exact e2 x hx m hm
            · have ex := List.mem_singleton.mp hx
              subst ex
              subst e1
              exact hv m (ho.symm.trans hm)
          cases e2 : sizeR s' q r.2.1 with
          | none =>
            refine iteF (iteF ?_)
            exact stay none e2 fun m e => nomatch e
          | some m =>
            refine iteT ?_
            refine ⟨_, rfl, t, _, 0, _, rfl, rfl, SqT.of ht2, rfl, _, rfl, d, _, rfl, DGet.k (k := Sum.inr r.1) upd_same, _, rfl, ?_⟩
            rw [valV_szD]
            have change : (∀ v, look s' r.1 = some v → m < v) → ∃ (s'' : Sz) (b' : Bool) (w4 w5 : Option V), upd H d (.dK (szD (putS s' r.1 m))) = upd H d (.dK (szD s'')) ∧ SzOk g q s'' ∧ (b' = false → s'' = s ∧ ∀ r ∈ g.take (i + 1), ∀ m, sizeR s q r.2.1 = some m → ∃ v, look s r.1 = some v ∧ v ≤ m) ∧ (b' = true → mu g q s'' < mu g q s) ∧ [some (.ref l), some (.int q), some (.ref d), some (.bl true), some (.ref t), some (oV (some m))] = [some (.ref l), some (.int q), some (.ref d), some (.bl b'), w4, w5] := fun hlt => by
              obtain ⟨ok2, mu2⟩ := hok'.step hg hq hrm e2 hlt
              refine ⟨putS s' r.1 m, true, _, _, rfl, ok2, (fun e => nomatch e), fun _ => ?_, rfl⟩
              cases b with
              | true => exact Nat.lt_trans mu2 (hb1 rfl)
              | false =>
                obtain ⟨e1, _⟩ := hb0 rfl
                subst e1
                exact mu2
            have len : (szD s').length < sizeLine := by
              unfold szD
              rw [List.length_map]
              exact Nat.lt_of_lt_of_le (show _ < 1000 by have := hok'.len; omega) (line1000 (Nat.le_refl _))
            have put : DPut (upd H d (.dK (szD s'))) d (.str r.1) (.int m) (upd H d (.dK (szD (putS s' r.1 m)))) := by
              have := DPut.k (k := Sum.inr r.1) (v := .int m) (upd_same (H := H) (a := d) (o := .dK (szD s'))) len
              rw [put_szD hok'.nd, upd_upd] at this
              exact this
            cases e3 : look s' r.1 with
            | none =>
              refine iteT (iteT ?_)
              refine ⟨_, rfl, _, rfl, _, rfl, t, _, 0, _, rfl, rfl, SqT.of ht2, rfl, d, _, rfl, put, ?_⟩
              exact change fun v e => by rw [e3] at e; cases e
            | some v =>
              refine iteF ?_
              refine ⟨_, rfl, _, rfl, _, rfl, t, _, 0, _, rfl, rfl, SqT.of ht2, rfl, d, .int v, rfl, ?_, _, _, rfl, rfl, _, rfl, ?_⟩
              · have := DGet.k (k := Sum.inr r.1) (upd_same (H := H) (a := d) (o := .dK (szD s')))
                rw [valV_szD, e3] at this
                exact this
              refine ite2 (fun h1 => ?_) fun h1 => ?_
              · refine ⟨_, rfl, _, rfl, _, rfl, t, _, 0, _, rfl, rfl, SqT.of ht2, rfl, d, _, rfl, put, ?_⟩
                exact change fun v' e => by
                  rw [e3] at e
                  cases e
                  exact of_decide_eq_true h1
              · have h1' : v ≤ m := Int.not_lt.mp fun z => h1 (decide_eq_true z)
                exact stay (some m) e2 fun m' e => by
                  cases e
                  exact ⟨v, e3, h1'⟩
        · rintro σ H2 ⟨s', b, v4', v5', rfl, hok', hb0, hb1, rfl⟩
          refine ⟨⟨s', b, _, _, rfl, hok', fun e => ?_, rfl⟩, ?_⟩
          · obtain ⟨e1, e2⟩ := hb0 e
            subst e1
            intro r hr m hm
            exact e2 r (by rw [List.take_of_length_le (by omega)]; exact hr) m hm
          · show 2 * mu g q (unsz (kvsAt (upd H d (.dK (szD s'))) d)) + _ < 2 * mu g q (unsz (kvsAt (upd H d (.dK (szD s))) d)) + _
            rw [ekv, ekv, unsz_szD, unsz_szD]
            cases b with
            | true =>
              have := hb1 rfl
              show 2 * mu g q s' + 1 < 2 * mu g q s + 1
              omega
            | false =>
              obtain ⟨e1, _⟩ := hb0 rfl
              subst e1
              show 2 * mu g q s' + 0 < 2 * mu g q s' + 1
              omega
    · rintro σ H2 Q1 Q2 hQ ⟨x, e1, c, e2, h⟩
      exact ⟨x, e1, c, e2, hQ _ _ h⟩
theorem sc_least : FnScope ["grammar"] ["grammar"] (defScope s_least) := ⟨rfl, rfl, rfl, by decide +kernel, rfl, by decide +kernel, by decide +kernel⟩
theorem ok_least {f : Addr} {fd : FuncData} (F : Fun K "least" "least" s_least f fd) (T : Txt K mg C) (U_least_sizes : Used P w K mg CX0 3 "least_sizes" ["rules", "sign_size"] (spLeastS)) (U_checked : Used P w K mg (CXo P w) 7 "checked" ["thing"] (spChecked C.NoGrammar)) : FnOk P w K mg base (CXo P w) 8 f fd ["grammar"] (spLeast C.NoGrammar) := by
  obtain ⟨f_least_sizes, fd_least_sizes, G_least_sizes, m_least_sizes, k_least_sizes, b_least_sizes⟩ := U_least_sizes.ok
  obtain ⟨f_checked, fd_checked, G_checked, m_checked, k_checked, b_checked⟩ := U_checked.ok
  refine F.okX sc_least (fun vs H Q E h => ?_) (fun cdv A outer s H vs Q E hr h => ?_)
  · obtain ⟨x, d, rfl, _⟩ := h
    rfl
  · obtain ⟨x, d, rfl, den, sh, hp, q1, q2⟩ := h
    refine ⟨_, (pss_one (ps_ret (pe_call (G_least_sizes base) (hr.mono (by decide)) (by rfl) m_least_sizes k_least_sizes b_least_sizes .nil pass0 (pa_cons (pe_call (G_checked base) (hr.mono (by decide)) (by rfl) m_checked k_checked b_checked .nil sink_def.on (pa_cons (pv 0) pa_nil)) (pa_cons pe_int pa_nil))))), ?_⟩
    refine ⟨_, rfl, x, d, rfl, den, sh, hp, fun e l xs ds ed hds hl => ?_, fun e => q2 e H (Same.refl H) hp⟩
    obtain ⟨g, rfl, hg⟩ := gram_of e
    cases ed
    have s1 := Same.upd (o := .lst xs) hl
    refine ⟨l, xs, g, 0, rfl, upd_same, hds.same s1, hg, Int.le_refl _, hp.upd rfl, fun d s H' hok hfix hd e => ?_⟩
    subst e
    exact q1 g rfl hg d s _ hok hfix (s1.trans (Same.upd hd)) ((hp.upd rfl).upd rfl) (s1.free hd) upd_same
end
end FR


set_option linter.all false
set_option maxRecDepth 100000
set_option maxHeartbeats 4000000
namespace FR
open PySem L2

def fsD (fs : List (Nat × Int)) : List (Key × V) := fs.map fun p => (Sum.inl (p.1 : Int), V.int p.2)
def spWays : Sp := fun vs H Q _ => ∃ (l d : Addr) (xs : List V) (r0 : Rule) (rest : List Rule) (s : Sz), vs = [.ref l, .ref d] ∧ H l = some (.lst xs) ∧ Dens H xs ((r0 :: rest).map ruleD) ∧ okGram (r0 :: rest) = true ∧ H d = some (.dK (szD s)) ∧ SzOk (r0 :: rest) 0 s ∧ Plain H ∧
  ∀ t dO dS o kvs2 H', WyOk (r0 :: rest) s r0.1 o → DownFix (r0 :: rest) s o → StOk H' (r0 :: rest) s r0.1 o kvs2 → Same H H' → Plain H' → H' t = some (.tup [.ref dO, .ref dS]) → H' dO = some (.dK (szD o)) → H' dS = some (.dK kvs2) → Q (.ref t) H'
def spSizesW : Sp := fun vs H Q _ => ∃ (l d : Addr) (xs : List V) (g : Gram) (s : Sz), vs = [.ref l, .ref d] ∧ H l = some (.lst xs) ∧ Dens H xs (g.map ruleD) ∧ okGram g = true ∧ H d = some (.dK (szD s)) ∧ SzOk g 0 s ∧ Plain H ∧
  ∀ dF (fs : List (Nat × Int)) H', (fs.map (·.1)).Pairwise (· < ·) → (∀ k, k ∈ fs.map (·.1) ↔ Need g s k) → (∀ r0 rest, g = r0 :: rest → ∃ o, WyOk g s r0.1 o ∧ DF g s r0.1 o ∧ ∀ p ∈ fs, ∃ r m h, g[p.1]? = some r ∧ sizeR s 0 r.2.1 = some m ∧ look o r.1 = some h ∧ p.2 = h + m) → Same H H' → Plain H' → H dF = none → H' dF = some (.dK (fsD fs)) → Q (.ref dF) H'
def spNeeded (C : Addr) : Sp := fun vs H Q E => ∃ x d, vs = [x] ∧ Den H x d ∧ d.short = true ∧ Plain H ∧
  (∀ g, d = gramD g → okGram g = true → ∀ l s (ks : List Nat) H', SzOk g 0 s → Fix g 0 s → ks.Pairwise (· < ·) → (∀ k, k ∈ ks ↔ Need g s k) → Same H H' → Plain H' → H l = none → H' l = some (.lst (ks.map fun k : Nat => V.int (k : Int))) → Q (.ref l) H') ∧ (isGramD d = false → ∀ H', Same H H' → Plain H' → E (.ref C) none H')
theorem putK_old {kvs : List (Key × V)} {k : Key} (v : V) (hm : k ∈ kvs.map (·.1)) : (putK kvs k v).map (·.1) = kvs.map (·.1) := by
  unfold putK
  obtain ⟨q, hq, e⟩ := List.mem_map.mp hm
  rw [if_pos (List.any_eq_true.mpr ⟨q, hq, decide_eq_true e⟩), List.map_map]
  refine List.map_congr_left fun q _ => ?_
  show (if q.1 = k then (q.1, v) else q).1 = q.1
  split <;> rfl
theorem putK_new {kvs : List (Key × V)} {k : Key} (v : V) (hm : ¬ k ∈ kvs.map (·.1)) : (putK kvs k v).map (·.1) = kvs.map (·.1) ++ [k] := by
  unfold putK
  rw [if_neg, List.map_append]
  · rfl
  · intro h
    obtain ⟨q, hq, e⟩ := List.any_eq_true.mp h
    exact hm (List.mem_map.mpr ⟨q, hq, of_decide_eq_true e⟩)
def keysOf (o : Sz) : List Key := o.map fun p => Sum.inr p.1
theorem keys_put {o : Sz} {kvs : List (Key × V)} (h : kvs.map (·.1) = keysOf o) (p : Str) (n : Int) (v : V) : (putK kvs (Sum.inr p) v).map (·.1) = keysOf (putS o p n) := by
  have e : ∀ o : Sz, keysOf o = (o.map (·.1)).map Sum.inr := fun o => by unfold keysOf; rw [List.map_map]; rfl
  by_cases hm : p ∈ o.map (·.1)
  · rw [putK_old v (by rw [h, e]; exact List.mem_map.mpr ⟨p, hm, rfl⟩), h, e, e, put_keys, if_pos hm]
  · rw [putK_new v, h, e, e, put_keys, if_neg hm, List.map_append]
    · rfl
    · rw [h, e]
      intro m
      obtain ⟨q, hq, e2⟩ := List.mem_map.mp m
      exact hm (Sum.inr.inj e2 ▸ hq)
theorem putK_snoc {kvs : List (Key × V)} {k : Key} (v : V) (hm : ¬ k ∈ kvs.map (·.1)) : putK kvs k v = kvs ++ [(k, v)] := by
  unfold putK
  rw [if_neg]
  intro h
  obtain ⟨q, hq, e⟩ := List.any_eq_true.mp h
  exact hm (List.mem_map.mpr ⟨q, hq, of_decide_eq_true e⟩)
theorem fsD_keys (fs : List (Nat × Int)) {k : Nat} (h : ¬ k ∈ fs.map (·.1)) : ¬ (Sum.inl (k : Int) : Key) ∈ (fsD fs).map (·.1) := fun m => by
  unfold fsD at m
  rw [List.map_map] at m
  obtain ⟨q, hq, e⟩ := List.mem_map.mp m
  have e : (Sum.inl (q.1 : Int) : Key) = Sum.inl (k : Int) := e
  have : q.1 = k := by have := Sum.inl.inj e; omega
  exact h (List.mem_map.mpr ⟨q, hq, this⟩)
theorem dget_sz {H : Hp} {d : Addr} {s : Sz} {z : Str} {v : Int} (hd : H d = some (.dK (szD s))) (h : look s z = some v) : DGet H d (.str z) (some (.int v)) := by
  have := DGet.k (k := Sum.inr z) hd
  rw [valV_szD, h] at this
  exact this
theorem nodup_lenN {xs ys : List Nat} (h : xs.Nodup) (hs : ∀ x ∈ xs, x ∈ ys) : xs.length ≤ ys.length := by
  induction xs generalizing ys with
  | nil => exact Nat.zero_le _
  | cons x xs ih =>
    rw [List.nodup_cons] at h
    have hx := hs x (List.mem_cons_self ..)
    have := ih (ys := ys.erase x) h.2 fun y hy => by
      have hne : y ≠ x := fun e => h.1 (e ▸ hy)
      exact (List.mem_erase_of_ne hne).mpr (hs y (List.mem_cons_of_mem _ hy))
    rw [List.length_erase_of_mem hx] at this
    have hpos := List.length_pos_of_mem hx
    rw [List.length_cons]
    omega
section
variable {P : Program} {w : World} {K : PySem.W.Frag} {mg : Str → Option Value} {base : Heap} {C : Adr}
theorem sc_ways_down : FnScope ["rules", "sizes", "outer", "steps", "shrinking", "number", "rule", "size", "place", "part", "more"] ["rules", "sizes"] (defScope s_ways_down) := ⟨rfl, rfl, rfl, by decide +kernel, rfl, by decide +kernel, by decide +kernel⟩
theorem ok_ways_down {f : Addr} {fd : FuncData} (F : Fun K "ways_down" "ways_down" s_ways_down f fd) (T : Txt K mg C) (U_size_of_rule : Used P w K mg CX0 2 "size_of_rule" ["sizes", "rule", "sign_size"] (spSizeR)) : FnOk P w K mg base CX0 3 f fd ["rules", "sizes"] (spWays) := by
  obtain ⟨f_size_of_rule, fd_size_of_rule, G_size_of_rule, m_size_of_rule, k_size_of_rule, b_size_of_rule⟩ := U_size_of_rule.ok
  refine F.ok sc_ways_down (fun vs H Q E h => ?_) (fun cdv A outer s H vs Q E hr h => ?_)
  · obtain ⟨l, d, xs, r0, rest, s, rfl, _⟩ := h
    rfl
  · obtain ⟨l, d, xs, r0, rest, s, rfl, hl, hds, hg, hd, hs, hp, q⟩ := h
    have hu := hu_of hr
    refine ⟨_, (pss_cons (ps_set (i := 2) sc_ways_down.nd rfl (Or.inl rfl) (pe_disp (pps_cons (pe_ix (ix_tupK K rfl) (pe_ix (ix_listK K rfl) (pv 0) pe_int (fun _ _ => rfl)) pe_int (fun _ _ => rfl)) pe_int pps_nil) rfl rfl (fun z => nomatch z) (by simp)))
      (pss_cons (ps_set (i := 3) sc_ways_down.nd rfl (Or.inl rfl) (pe_disp (pps_cons (pe_ix (ix_tupK K rfl) (pe_ix (ix_listK K rfl) (pv 0) pe_int (fun _ _ => rfl)) pe_int (fun _ _ => rfl)) pe_non pps_nil) rfl rfl (fun z => nomatch z) (by simp)))
      (pss_cons (ps_set (i := 4) sc_ways_down.nd rfl (Or.inl rfl) pe_bl)
      (pss_cons (ps_while PassesOwn.never (pt_val (pv 4)) (pss_cons (ps_set (i := 4) sc_ways_down.nd rfl (Or.inl rfl) pe_bl)
      (pss_one (ps_for PassesOwn.never rfl (pi_enum K rfl rfl T.z_enumerate (pa_cons (pv 0) pa_nil)) (pg_tupK K rfl (n := 2) rfl (pgs_cons (pg_name (i := 5) sc_ways_down.nd rfl (Or.inl rfl)) (pgs_cons (pg_name (i := 6) sc_ways_down.nd rfl (Or.inl rfl)) pgs_nil))) (pss_cons (ps_set (i := 7) sc_ways_down.nd rfl (Or.inl rfl) (pe_call (G_size_of_rule base) (hr.mono (by decide)) (by rfl) m_size_of_rule k_size_of_rule b_size_of_rule .nil pass0 (pa_cons (pv 1) (pa_cons (pv 6) (pa_cons pe_int pa_nil)))))
      (pss_cons (ps_if (PW.pt (pw_or (pt_cmpR op_isN (pv 7) pe_non (nomark _)) (pw_or1 (pt_cmp (pc_dnotin hu (pe_ix (ix_tupK K rfl) (pv 6) pe_int (fun _ _ => rfl)) (pv 2)))))) (pss_one ps_continue) pss_nil)
      (pss_one (ps_for PassesOwn.never rfl (pi_enumT K rfl rfl T.z_enumerate (pa_cons (pe_ix (ix_tupK K rfl) (pv 6) pe_int (fun _ _ => rfl)) pa_nil)) (pg_tupK K rfl (n := 2) rfl (pgs_cons (pg_name (i := 8) sc_ways_down.nd rfl (Or.inl rfl)) (pgs_cons (pg_name (i := 9) sc_ways_down.nd rfl (Or.inl rfl)) pgs_nil))) (pss_cons (ps_if (pt_val (pe_bmK K rfl PySem.F.plainAttrs_str PySem.F.slot_str_startswith PySem.F.type_str_startswith mt_str_startswith (pv 9) (pa_cons pe_str pa_nil))) (pss_one ps_continue) pss_nil)
      (pss_cons (ps_set (i := 10) sc_ways_down.nd rfl (Or.inl rfl) (pe_op op_sub (pe_op op_add (pe_dget hu (pv 2) (pe_ix (ix_tupK K rfl) (pv 6) pe_int (fun _ _ => rfl)) (fun _ _ => rfl)) (pv 7)) (pe_dget hu (pv 1) (pv 9) (fun _ _ => rfl))))
      (pss_one (ps_if (PW.pt (pw_or (pt_cmp (pc_dnotin hu (pv 9) (pv 2))) (pw_or1 (pt_cmpR op_lt (pv 10) (pe_dget hu (pv 2) (pv 9) (fun _ _ => rfl)) (nomark _))))) (pss_cons (ps_dput hu (pv 2) (pv 9) (pv 10) rfl)
      (pss_cons (ps_dput hu (pv 3) (pv 9) (pe_tup (pa_cons (pv 5) (pa_cons (pv 8) pa_nil))) rfl)
      (pss_one (ps_set (i := 4) sc_ways_down.nd rfl (Or.inl rfl) pe_bl)))) pss_nil))))))))))))
      (pss_one (ps_ret (pe_tup (pa_cons (pv 2) (pa_cons (pv 3) pa_nil))))))))), ?_⟩
    have hg60 := gram_60 hg
    have hxl : xs.length = (r0 :: rest).length := by rw [hds.len, List.length_map]
    obtain ⟨x0, xr, exs⟩ : ∃ x0 xr, xs = x0 :: xr := by
      cases xs with
      | nil => cases hxl
      | cons a b => exact ⟨a, b, rfl⟩
    have h00 : xs[0]? = some x0 := by rw [exs]; rfl
    obtain ⟨r00, t0, p0, er0, ey0, ht0, hpp0⟩ := rule_at hds h00
    cases er0
    have ax0 : atI xs 0 = some (.ref t0) := by rw [← ey0]; exact atI_nat (j := 0) h00
    have hz0 : r0.1 ∈ (r0 :: rest).map (·.1) := List.mem_cons_self ..
    obtain ⟨g, eg⟩ : ∃ g, r0 :: rest = g := ⟨_, rfl⟩
    rw [eg] at hds hg hs q hg60 hxl hz0
    intro dO hdO
    have sa := Same.upd (o := .dK []) hdO
    refine ⟨_, rfl, l, _, 0, _, rfl, rfl, SqL.of (sa _ _ hl), ax0, t0, _, 0, _, rfl, rfl, SqT.of (sa _ _ ht0), rfl, upd_same, [(Sum.inr r0.1, .int 0)], rfl, (show 1 ≤ 15 by decide), ?_⟩
    rw [upd_upd]
    intro dS hdS
    have ndS : dS ≠ dO := fun z => by rw [z, upd_same] at hdS; cases hdS
    have sb := (Same.upd (o := .dK (mergeK [] [(Sum.inr r0.1, V.int 0)])) hdO).trans (Same.upd (o := .dK []) hdS)
    refine ⟨_, rfl, l, _, 0, _, rfl, rfl, SqL.of (sb _ _ hl), ax0, t0, _, 0, _, rfl, rfl, SqT.of (sb _ _ ht0), rfl, upd_same, [(Sum.inr r0.1, .non)], rfl, (show 1 ≤ 15 by decide), ?_⟩
    rw [upd_upd]
    have hdS0 : H dS = none := (Same.upd (o := .dK (mergeK [] [(Sum.inr r0.1, V.int 0)])) hdO).free hdS
    have s3 := (Same.upd (o := .dK (mergeK [] [(Sum.inr r0.1, V.int 0)])) hdO).trans (Same.upd (o := .dK (mergeK [] [(Sum.inr r0.1, V.non)])) hdS)
    have o3 : upd (upd H dO (.dK (mergeK [] [(Sum.inr r0.1, V.int 0)]))) dS (.dK (mergeK [] [(Sum.inr r0.1, V.non)])) dO = some (.dK (szD [(r0.1, 0)])) := by rw [upd_ne ndS.symm, upd_same]; rfl
    have d3 : upd (upd H dO (.dK (mergeK [] [(Sum.inr r0.1, V.int 0)]))) dS (.dK (mergeK [] [(Sum.inr r0.1, V.non)])) dS = some (.dK [(Sum.inr r0.1, .non)]) := by rw [upd_same]; rfl
    have p3 : Plain (upd (upd H dO (.dK (mergeK [] [(Sum.inr r0.1, V.int 0)]))) dS (.dK (mergeK [] [(Sum.inr r0.1, V.non)]))) := (hp.upd rfl).upd rfl
    revert s3 o3 d3 p3
    generalize upd (upd H dO (.dK (mergeK [] [(Sum.inr r0.1, V.int 0)]))) dS (.dK (mergeK [] [(Sum.inr r0.1, V.non)])) = H3
    intro s3 o3 d3 p3
    have st0 : StOk H3 g s r0.1 [(r0.1, 0)] [(Sum.inr r0.1, .non)] := fun p v e => by
      rw [look_cons] at e
      by_cases hz : r0.1 = p
      · exact .inl ⟨hz.symm, by rw [← hz, valV_pos rfl]⟩
      · rw [if_neg hz] at e
        cases e
    refine ⟨fun μ σ H4 => ∃ (o : Sz) (kvs2 : List (Key × V)) (b : Bool) (v5 v6 v7 v8 v9 v10 : Option V), σ = [some (.ref l), some (.ref d), some (.ref dO), some (.ref dS), some (.bl b), v5, v6, v7, v8, v9, v10] ∧ H4 dO = some (.dK (szD o)) ∧ H4 dS = some (.dK kvs2) ∧ kvs2.map (·.1) = keysOf o ∧ WyOk g s r0.1 o ∧ StOk H4 g s r0.1 o kvs2 ∧ (b = false → DownFix g s o) ∧
        μ = 2 * mu2 g o + (if b = true then 1 else 0) ∧ Same H H4 ∧ Plain H4, ⟨_, [(r0.1, 0)], [(Sum.inr r0.1, .non)], true, none, none, none, none, none, none, rfl, o3, d3, rfl, WyOk.first g s r0.1, st0, (fun e => nomatch e), rfl, s3, p3⟩, ?_⟩
    rintro μ σ H4 ⟨o, kvs2, b, v5, v6, v7, v8, v9, v10, rfl, o4, d4, k4, w4, st4, fx, hμ, s4, p4⟩
    refine ⟨_, rfl, b, rfl, ?_⟩
    cases b with
    | false =>
      refine iteF ⟨_, rfl, _, rfl, line1000 (by show 2 ≤ 1000; decide), fun t ht => ?_⟩
      have s5 := Same.upd (o := .tup [.ref dO, .ref dS]) ht
      exact q t dO dS o kvs2 _ w4 (fx rfl) (st4.mono s5) (s4.trans s5) (p4.upd rfl) upd_same (s5 _ _ o4) (s5 _ _ d4)
    | true =>
      refine iteT ⟨_, fun _ _ h => h, ?_⟩
      refine ⟨_, rfl, l, rfl, ⟨xs, .inl (s4 _ _ hl)⟩, ?_⟩
      refine for_enum (K := K) (a := l) (xs := xs) (fun i σ H5 => ∃ (o' : Sz) (kvs2 : List (Key × V)) (b : Bool) (v5 v6 v7 v8 v9 v10 : Option V), σ = [some (.ref l), some (.ref d), some (.ref dO), some (.ref dS), some (.bl b), v5, v6, v7, v8, v9, v10] ∧ H5 dO = some (.dK (szD o')) ∧ H5 dS = some (.dK kvs2) ∧ kvs2.map (·.1) = keysOf o' ∧ WyOk g s r0.1 o' ∧ StOk H5 g s r0.1 o' kvs2 ∧
          (b = false → o' = o ∧ ∀ r ∈ g.take i, ∀ p ∈ r.2.1, DownOk s o r p) ∧ (b = true → mu2 g o' < mu2 g o) ∧ Same H H5 ∧ Plain H5)
        ⟨o, kvs2, false, v5, v6, v7, v8, v9, v10, rfl, o4, d4, k4, w4, st4, (fun _ => ⟨rfl, fun r hr => nomatch hr⟩), (fun e => nomatch e), s4, p4⟩ ?_ ?_ ?_
      · rintro i σ H5 _ ⟨_, _, _, _, _, _, _, _, _, rfl, _, _, _, _, _, _, _, s5, _⟩
        exact SqL.of (s5 _ _ hl)
      · rintro i y T1 σ H5 hi hT1 ⟨o', kvs', b, v5, v6, v7, v8, v9, v10, rfl, o5, d5, k5, w5, st5, hb0, hb1, s5, p5⟩
        obtain ⟨r, t, p, er, rfl, ht, hpp⟩ := rule_at hds hi
        have hrm : r ∈ g := List.mem_of_getElem? er
        have et : g.take (i + 1) = g.take i ++ [r] := by rw [List.take_add_one, er]; rfl
        refine ⟨T1, _, rfl, SqT.of upd_same, rfl, _, _, rfl, _, _, rfl, rfl, ?_⟩
        have s6 := Same.upd (o := .tup [.int (i : Nat), .ref t]) hT1
        have p6 : Plain (upd H5 T1 (.tup [.int (i : Nat), .ref t])) := p5.upd rfl
        have o6 := s6 _ _ o5
        have d6 := s6 _ _ d5
        have s06 := s5.trans s6
        revert s6 p6 o6 d6 s06
        generalize upd H5 T1 (.tup [.int (i : Nat), .ref t]) = H6
        intro s6 p6 o6 d6 s06
        have t6 := s06 _ _ ht
        refine ⟨_, rfl, _, rfl, d, s, t, 0, r.1, p, r.2.1, r.2.2, rfl, s06 _ _ hd, t6, s06 _ _ hpp, ?_⟩
        have skip : (∀ p ∈ r.2.1, DownOk s o' r p) → ∀ v7', ∃ (o'' : Sz) (kvs2 : List (Key × V)) (b' : Bool) (w5 w6 w7 w8 w9 w10 : Option V), [some (.ref l), some (.ref d), some (.ref dO), some (.ref dS), some (V.bl b), some (.int (i : Nat)), some (.ref t), v7', v8, v9, v10] = [some (.ref l), some (.ref d), some (.ref dO), some (.ref dS), some (.bl b'), w5, w6, w7, w8, w9, w10] ∧ H6 dO = some (.dK (szD o'')) ∧ H6 dS = some (.dK kvs2) ∧ kvs2.map (·.1) = keysOf o'' ∧ WyOk g s r0.1 o'' ∧ StOk H6 g s r0.1 o'' kvs2 ∧
            (b' = false → o'' = o ∧ ∀ r ∈ g.take (i + 1), ∀ p ∈ r.2.1, DownOk s o r p) ∧ (b' = true → mu2 g o'' < mu2 g o) ∧ Same H H6 ∧ Plain H6 := fun hdn v7' => by
          refine ⟨o', kvs', b, _, _, _, _, _, _, rfl, o6, d6, k5, w5, st5.mono s6, fun e => ?_, hb1, s06, p6⟩
          obtain ⟨e1, e2⟩ := hb0 e
          refine ⟨e1, fun r' hr' => ?_⟩
          rw [et] at hr'
          rcases List.mem_append.mp hr' with hr' | hr'
          · exact e2 r' hr'
          · rw [List.mem_singleton.mp hr']
            rw [e1] at hdn
            exact hdn
        cases em : sizeR s 0 r.2.1 with
        | none =>
          refine ⟨_, rfl, rfl, _, rfl, ?_⟩
          exact skip (fun p _ m h sp e1 => by rw [em] at e1; cases e1) _
        | some m =>
          refine ⟨_, rfl, rfl, _, rfl, ?_⟩
          refine iteF ⟨_, rfl, t, _, 0, _, rfl, rfl, SqT.of t6, rfl, _, rfl, dO, _, rfl, DGet.k (k := Sum.inr r.1) o6, _, rfl, ?_⟩
          rw [valV_szD, Option.isSome_map]
          cases eh : look o' r.1 with
          | none => exact skip (fun p _ m' h sp e1 e2 => by rw [eh] at e2; cases e2) _
          | some h =>
            refine iteF ?_
            refine ⟨_, rfl, t, _, 1, _, rfl, rfl, SqT.of t6, rfl, p, rfl, ⟨_, SqT.of (s06 _ _ hpp)⟩, ?_⟩
            refine for_enumT (K := K) (a := p) (xs := r.2.1.map V.str) (fun j σ H7 => ∃ (o2 : Sz) (kvs2 : List (Key × V)) (b : Bool) (v8 v9 v10 : Option V), σ = [some (.ref l), some (.ref d), some (.ref dO), some (.ref dS), some (.bl b), some (.int (i : Nat)), some (.ref t), some (.int m), v8, v9, v10] ∧ H7 dO = some (.dK (szD o2)) ∧ H7 dS = some (.dK kvs2) ∧ kvs2.map (·.1) = keysOf o2 ∧ WyOk g s r0.1 o2 ∧ StOk H7 g s r0.1 o2 kvs2 ∧
                (b = false → o2 = o ∧ (∀ r ∈ g.take i, ∀ p ∈ r.2.1, DownOk s o r p) ∧ ∀ p ∈ r.2.1.take j, DownOk s o r p) ∧ (b = true → mu2 g o2 < mu2 g o) ∧ (∃ h, look o2 r.1 = some h) ∧ Same H H7 ∧ Plain H7)
              ⟨o', kvs', b, _, _, _, rfl, o6, d6, k5, w5, st5.mono s6, (fun e => ⟨(hb0 e).1, (hb0 e).2, fun p hp => nomatch hp⟩), hb1, ⟨h, eh⟩, s06, p6⟩ ?_ ?_ ?_
            · rintro j σ H7 _ ⟨_, _, _, _, _, _, rfl, _, _, _, _, _, _, _, _, s7, _⟩
              exact SqT.of (s7 _ _ hpp)
            · rintro j y T2 σ H7 hj hT2 ⟨o2, kvs22, b2, v8, v9, v10, rfl, o7, d7, k7, w7, st7, hc0, hc1, ⟨h2, eh2⟩, s7, p7⟩
              rw [List.getElem?_map] at hj
              cases ex : r.2.1[j]? with
              | none => rw [ex] at hj; cases hj
              | some x =>
                rw [ex] at hj
                cases hj
                have hxm : x ∈ r.2.1 := List.mem_of_getElem? ex
                have ej : r.2.1.take (j + 1) = r.2.1.take j ++ [x] := by rw [List.take_add_one, ex]; rfl
                refine ⟨T2, _, rfl, SqT.of upd_same, rfl, _, _, rfl, _, _, rfl, rfl, ?_⟩
                have s8 := Same.upd (o := .tup [.int (j : Nat), .str x]) hT2
                have p8 : Plain (upd H7 T2 (.tup [.int (j : Nat), .str x])) := p7.upd rfl
                have o8 := s8 _ _ o7
                have d8 := s8 _ _ d7
                have s08 := s7.trans s8
                revert s8 p8 o8 d8 s08
                generalize upd H7 T2 (.tup [.int (j : Nat), .str x]) = H8
                intro s8 p8 o8 d8 s08
                have t8 := s08 _ _ ht
                have keep : DownOk s o2 r x → b2 = false → o2 = o ∧ (∀ r ∈ g.take i, ∀ p ∈ r.2.1, DownOk s o r p) ∧ ∀ p ∈ r.2.1.take (j + 1), DownOk s o r p := fun hd1 e => by
                  obtain ⟨e1, e2, e3⟩ := hc0 e
                  refine ⟨e1, e2, fun p hp => ?_⟩
                  rw [ej] at hp
                  rcases List.mem_append.mp hp with hp | hp
                  · exact e3 p hp
                  · rw [List.mem_singleton.mp hp, ← e1]
                    exact hd1
                refine ⟨_, rfl, rfl, _, _, rfl, rfl, _, rfl, ?_⟩
                refine ite2 (fun hq => ?_) fun hq => ?_
                · exact ⟨o2, kvs22, b2, _, _, _, rfl, o8, d8, k7, w7, st7.mono s8, keep (fun m' h' sp _ _ e3 => by rw [show isQ x = true from hq] at e3; cases e3), hc1, ⟨h2, eh2⟩, s08, p8⟩
                · have hq' : isQ x = false := Bool.eq_false_iff.mpr hq
                  obtain ⟨sp, esp, hspm⟩ := (sizeG_part hs.pos em).2 x hxm hq'
                  refine ⟨_, rfl, _, rfl, t, _, 0, _, rfl, rfl, SqT.of t8, rfl, dO, .int h2, rfl, dget_sz o8 eh2, _, rfl, _, _, rfl, rfl, _, rfl, _, rfl, d, .int sp, rfl, dget_sz (s08 _ _ hd) esp, _, _, rfl, rfl, ?_⟩
                  have len : (szD o2).length < sizeLine := by
                    unfold szD
                    rw [List.length_map]
                    have := w7.len hs hz0
                    exact Nat.lt_of_lt_of_le (show _ < 1000 by omega) (line1000 (Nat.le_refl _))
                  have len2 : kvs22.length < sizeLine := by
                    have h1 := congrArg List.length k7
                    unfold keysOf at h1
                    rw [List.length_map, List.length_map] at h1
                    unfold szD at len
                    rw [List.length_map] at len
                    omega
                  have put1 : DPut H8 dO (.str x) (.int (h2 + m - sp)) (upd H8 dO (.dK (szD (putS o2 x (h2 + m - sp))))) := by
                    have := DPut.k (k := Sum.inr x) (v := .int (h2 + m - sp)) o8 len
                    rw [put_szD w7.nd] at this
                    exact this
                  have sU : Same H (upd H8 dO (.dK (szD (putS o2 x (h2 + m - sp))))) := s08.put hdO
                  have dU : upd H8 dO (.dK (szD (putS o2 x (h2 + m - sp)))) dS = some (.dK kvs22) := by rw [upd_ne ndS]; exact d8
                  have fin : (∀ v, look o2 x = some v → h2 + m - sp < v) → ∀ T3, upd H8 dO (.dK (szD (putS o2 x (h2 + m - sp)))) T3 = none →
                      ∃ (o3 : Sz) (kvs2 : List (Key × V)) (b : Bool) (w8 w9 w10 : Option V), [some (.ref l), some (.ref d), some (.ref dO), some (.ref dS), some (V.bl true), some (.int (i : Nat)), some (.ref t), some (.int m), some (.int (j : Nat)), some (.str x), some (.int (h2 + m - sp))] = [some (.ref l), some (.ref d), some (.ref dO), some (.ref dS), some (.bl b), some (.int (i : Nat)), some (.ref t), some (.int m), w8, w9, w10] ∧
                        upd (upd (upd H8 dO (.dK (szD (putS o2 x (h2 + m - sp))))) T3 (.tup [.int (i : Nat), .int (j : Nat)])) dS (.dK (putK kvs22 (Sum.inr x) (.ref T3))) dO = some (.dK (szD o3)) ∧ upd (upd (upd H8 dO (.dK (szD (putS o2 x (h2 + m - sp))))) T3 (.tup [.int (i : Nat), .int (j : Nat)])) dS (.dK (putK kvs22 (Sum.inr x) (.ref T3))) dS = some (.dK kvs2) ∧ kvs2.map (·.1) = keysOf o3 ∧ WyOk g s r0.1 o3 ∧ StOk (upd (upd (upd H8 dO (.dK (szD (putS o2 x (h2 + m - sp))))) T3 (.tup [.int (i : Nat), .int (j : Nat)])) dS (.dK (putK kvs22 (Sum.inr x) (.ref T3)))) g s r0.1 o3 kvs2 ∧
                (b = false → o3 = o ∧ (∀ r ∈ g.take i, ∀ p ∈ r.2.1, DownOk s o r p) ∧ ∀ p ∈ r.2.1.take (j + 1), DownOk s o r p) ∧ (b = true → mu2 g o3 < mu2 g o) ∧ (∃ h, look o3 r.1 = some h) ∧ Same H (upd (upd (upd H8 dO (.dK (szD (putS o2 x (h2 + m - sp))))) T3 (.tup [.int (i : Nat), .int (j : Nat)])) dS (.dK (putK kvs22 (Sum.inr x) (.ref T3)))) ∧ Plain (upd (upd (upd H8 dO (.dK (szD (putS o2 x (h2 + m - sp))))) T3 (.tup [.int (i : Nat), .int (j : Nat)])) dS (.dK (putK kvs22 (Sum.inr x) (.ref T3)))) := fun hless T3 hT3 => by
                    obtain ⟨w9', hm9⟩ := w7.step hg hs hz0 hrm hxm hq' em eh2 esp hless
                    have hx0 : x ≠ r0.1 := fun z => by
                      have h1 := hless 0 (by rw [z]; exact w7.has)
                      have h2' := w7.nn _ _ eh2
                      omega
                    have nT : dO ≠ T3 := fun z => by rw [← z, upd_same] at hT3; cases hT3
                    refine ⟨putS o2 x (h2 + m - sp), putK kvs22 (Sum.inr x) (.ref T3), true, _, _, _, rfl, by rw [upd_ne ndS.symm, upd_ne nT]; exact upd_same, upd_same, keys_put k7 x _ _, w9', ?_, (fun e => nomatch e), fun _ => ?_, ?_, (sU.trans (Same.upd hT3)).put hdS0, ((p8.upd rfl).upd rfl).upd rfl⟩
                    · have nTS : T3 ≠ dS := fun z => by rw [z, dU] at hT3; cases hT3
                      refine st7.put (H' := _) (fun T xs e => ?_) hx0 (by rw [upd_ne nTS]; exact upd_same) er ex hq' em eh2 esp (by omega) hless
                      have e8 := s8 _ _ e
                      have n1 : T ≠ dO := fun z => by rw [z, o8] at e8; cases e8
                      have n2 : T ≠ dS := fun z => by rw [z, d8] at e8; cases e8
                      have n3 : T ≠ T3 := fun z => by rw [← z, upd_ne n1, e8] at hT3; cases hT3
                      rw [upd_ne n2, upd_ne n3, upd_ne n1]
                      exact e8
                    · cases b2 with
                      | true => exact Nat.lt_trans hm9 (hc1 rfl)
                      | false =>
                        rw [(hc0 rfl).1] at hm9 ⊢
                        exact hm9
                    · rw [look_put]
                      split
                      · exact ⟨_, rfl⟩
                      · exact ⟨h2, eh2⟩
                  refine ⟨_, rfl, _, rfl, dO, _, rfl, DGet.k (k := Sum.inr x) o8, _, rfl, ?_⟩
                  rw [valV_szD, Option.isSome_map]
                  cases ev : look o2 x with
                  | none =>
                    refine ⟨_, rfl, _, rfl, _, rfl, dO, _, rfl, put1, _, rfl, _, rfl, line1000 (by show 2 ≤ 1000; decide), fun T3 hT3 => ⟨_, rfl, _, rfl, dS, _, rfl, DPut.k (k := Sum.inr x) ((Same.upd hT3) _ _ dU) len2, ?_⟩⟩
                    exact fin (fun v e => by rw [ev] at e; cases e) T3 hT3
                  | some v =>
                    refine iteF ⟨_, rfl, _, rfl, _, rfl, dO, .int v, rfl, dget_sz o8 ev, _, _, rfl, rfl, _, rfl, ite2 (fun hv => ?_) fun hv => ?_⟩
                    · refine ⟨_, rfl, _, rfl, _, rfl, dO, _, rfl, put1, _, rfl, _, rfl, line1000 (by show 2 ≤ 1000; decide), fun T3 hT3 => ⟨_, rfl, _, rfl, dS, _, rfl, DPut.k (k := Sum.inr x) ((Same.upd hT3) _ _ dU) len2, ?_⟩⟩
                      exact fin (fun v' e => by rw [ev] at e; cases e; exact of_decide_eq_true hv) T3 hT3
                    · refine ⟨o2, kvs22, b2, _, _, _, rfl, o8, d8, k7, w7, st7.mono s8, keep (fun m' h' sp' e1 e2 _ e4 => ?_), hc1, ⟨h2, eh2⟩, s08, p8⟩
                      rw [em] at e1
                      rw [eh2] at e2
                      rw [esp] at e4
                      cases e1
                      cases e2
                      cases e4
                      exact ⟨v, ev, by have : ¬ h2 + m - sp < v := fun z => hv (decide_eq_true z); omega⟩
            · rintro σ H7 ⟨o2, kvs22, b2, v8, v9, v10, rfl, o7, d7, k7, w7, st7, hc0, hc1, ⟨h2, eh2⟩, s7, p7⟩
              refine ⟨o2, kvs22, b2, _, _, _, _, _, _, rfl, o7, d7, k7, w7, st7, fun e => ?_, hc1, s7, p7⟩
              obtain ⟨e1, e2, e3⟩ := hc0 e
              rw [List.length_map, List.take_length] at e3
              refine ⟨e1, fun r' hr' => ?_⟩
              rw [et] at hr'
              rcases List.mem_append.mp hr' with hr' | hr'
              · exact e2 r' hr'
              · rw [List.mem_singleton.mp hr']
                exact e3
      · rintro σ H5 ⟨o', kvs', b, v5, v6, v7, v8, v9, v10, rfl, o5, d5, k5, w5, st5, hb0, hb1, s5, p5⟩
        refine ⟨_, ?_, o', kvs', b, _, _, _, _, _, _, rfl, o5, d5, k5, w5, st5, fun e => ?_, rfl, s5, p5⟩
        · rw [hμ]
          cases b with
          | true =>
            have := hb1 rfl
            show 2 * mu2 g o' + 1 < 2 * mu2 g o + 1
            omega
          | false =>
            obtain ⟨e1, _⟩ := hb0 rfl
            rw [e1]
            show 2 * mu2 g o + 0 < 2 * mu2 g o + 1
            omega
        · obtain ⟨e1, e2⟩ := hb0 e
          rw [hxl, List.take_length] at e2
          rw [e1]
          exact e2
theorem sc_sizes_with : FnScope ["rules", "sizes", "outer", "found", "number", "rule", "size"] ["rules", "sizes"] (defScope s_sizes_with) := ⟨rfl, rfl, rfl, by decide +kernel, rfl, by decide +kernel, by decide +kernel⟩
theorem ok_sizes_with {f : Addr} {fd : FuncData} (F : Fun K "sizes_with" "sizes_with" s_sizes_with f fd) (T : Txt K mg C) (U_ways_down : Used P w K mg CX0 3 "ways_down" ["rules", "sizes"] (spWays)) (U_size_of_rule : Used P w K mg CX0 2 "size_of_rule" ["sizes", "rule", "sign_size"] (spSizeR)) : FnOk P w K mg base CX0 4 f fd ["rules", "sizes"] (spSizesW) := by
  obtain ⟨f_ways_down, fd_ways_down, G_ways_down, m_ways_down, k_ways_down, b_ways_down⟩ := U_ways_down.ok
  obtain ⟨f_size_of_rule, fd_size_of_rule, G_size_of_rule, m_size_of_rule, k_size_of_rule, b_size_of_rule⟩ := U_size_of_rule.ok
  refine F.ok sc_sizes_with (fun vs H Q E h => ?_) (fun cdv A outer s H vs Q E hr h => ?_)
  · obtain ⟨l, d, xs, g, s, rfl, _⟩ := h
    rfl
  · obtain ⟨l, d, xs, g, s, rfl, hl, hds, hg, hd, hs, hp, q⟩ := h
    have hu := hu_of hr
    refine ⟨_, (pss_cons (ps_if (pt_not (pt_truthK K rfl (pv 0) (fun _ => rfl))) (pss_one (ps_ret pe_dnewK)) pss_nil)
      (pss_cons (ps_set (i := 2) sc_sizes_with.nd rfl (Or.inl rfl) (pe_ix (ix_tupK K rfl) (pe_call (G_ways_down base) (hr.mono (by decide)) (by rfl) m_ways_down k_ways_down b_ways_down .nil pass0 (pa_cons (pv 0) (pa_cons (pv 1) pa_nil))) pe_int (fun _ _ => rfl)))
      (pss_cons (ps_set (i := 3) sc_sizes_with.nd rfl (Or.inl rfl) pe_dnewK)
      (pss_cons (ps_for PassesOwn.never rfl (pi_enum K rfl rfl T.z_enumerate (pa_cons (pv 0) pa_nil)) (pg_tupK K rfl (n := 2) rfl (pgs_cons (pg_name (i := 4) sc_sizes_with.nd rfl (Or.inl rfl)) (pgs_cons (pg_name (i := 5) sc_sizes_with.nd rfl (Or.inl rfl)) pgs_nil))) (pss_cons (ps_set (i := 6) sc_sizes_with.nd rfl (Or.inl rfl) (pe_call (G_size_of_rule base) (hr.mono (by decide)) (by rfl) m_size_of_rule k_size_of_rule b_size_of_rule .nil pass0 (pa_cons (pv 1) (pa_cons (pv 5) (pa_cons pe_int pa_nil)))))
      (pss_one (ps_if (PW.pt (pw_and (pt_cmpR op_notN (pv 6) pe_non (nomark _)) (pw_and1 (pt_cmp (pc_din hu (pe_ix (ix_tupK K rfl) (pv 5) pe_int (fun _ _ => rfl)) (pv 2)))))) (pss_one (ps_dput hu (pv 3) (pv 4) (pe_op op_add (pe_dget hu (pv 2) (pe_ix (ix_tupK K rfl) (pv 5) pe_int (fun _ _ => rfl)) (fun _ _ => rfl)) (pv 6)) rfl)) pss_nil))))
      (pss_one (ps_ret (pv 3))))))), ?_⟩
    have hg60 := gram_60 hg
    have hxl : xs.length = g.length := by rw [hds.len, List.length_map]
    refine ⟨_, rfl, _, .inl ⟨xs, SqL.of hl, rfl⟩, ?_⟩
    cases g with
    | nil =>
      cases xs with
      | cons a b => cases hxl
      | nil =>
        refine iteT fun dF hdF => ?_
        refine q dF [] _ List.Pairwise.nil (fun k => ⟨(fun hk => nomatch hk), fun hk => ?_⟩) (fun r0 rest e => nomatch e) (Same.upd hdF) (hp.upd rfl) hdF upd_same
        obtain ⟨_, _, _, e, _⟩ := hk
        cases e
    | cons r0 rest =>
      have hne : (!xs.isEmpty) = true := by
        cases xs with
        | nil => cases hxl
        | cons a b => rfl
      rw [hne]
      refine iteF ?_
      refine ⟨_, rfl, _, rfl, l, d, xs, r0, rest, s, rfl, hl, hds, hg, hd, hs, hp, fun t dO dS o kvs2 H1 wy fx sto s1 p1 ht hO hS => ⟨t, _, 0, _, rfl, rfl, SqT.of ht, rfl, ?_⟩⟩
      obtain ⟨g, eg⟩ : ∃ g, r0 :: rest = g := ⟨_, rfl⟩
      rw [eg] at hds hg hs hg60 hxl wy fx sto q
      intro dF hdF
      have s2 := Same.upd (o := .dK []) hdF
      have hdF0 : H dF = none := s1.free hdF
      refine ⟨_, rfl, l, rfl, ⟨xs, .inl ((s1.trans s2) _ _ hl)⟩, ?_⟩
      refine for_enum (K := K) (a := l) (xs := xs) (fun i σ H3 => ∃ (fs : List (Nat × Int)) (v4 v5 v6 : Option V), σ = [some (.ref l), some (.ref d), some (.ref dO), some (.ref dF), v4, v5, v6] ∧ H3 dF = some (.dK (fsD fs)) ∧ (fs.map (·.1)).Pairwise (· < ·) ∧ (∀ k, k ∈ fs.map (·.1) ↔ k < i ∧ Need g s k) ∧
          (∀ p ∈ fs, ∃ r m h, g[p.1]? = some r ∧ sizeR s 0 r.2.1 = some m ∧ look o r.1 = some h ∧ p.2 = h + m) ∧ Same H1 H3 ∧ Plain H3)
        ⟨[], none, none, none, rfl, upd_same, List.Pairwise.nil, fun k => ⟨(fun hk => nomatch hk), fun hk => absurd hk.1 (Nat.not_lt_zero _)⟩, (fun p hp => nomatch hp), s2, p1.upd rfl⟩ ?_ ?_ ?_
      · rintro i σ H3 _ ⟨_, _, _, _, rfl, _, _, _, _, s3, _⟩
        exact SqL.of ((s1.trans s3) _ _ hl)
      · rintro i y T1 σ H3 hi hT1 ⟨fs, v4, v5, v6, rfl, hf3, srt, mem, fct, s3, p3⟩
        obtain ⟨r, tt, p, er, rfl, ht1, hpp⟩ := rule_at hds hi
        refine ⟨T1, _, rfl, SqT.of upd_same, rfl, _, _, rfl, _, _, rfl, rfl, ?_⟩
        have s6 := Same.upd (o := .tup [.int (i : Nat), .ref tt]) hT1
        have p6 : Plain (upd H3 T1 (.tup [.int (i : Nat), .ref tt])) := p3.upd rfl
        have f6 := s6 _ _ hf3
        have s16 := s3.trans s6
        have O6 := s16 _ _ hO
        revert s6 p6 f6 s16 O6
        generalize upd H3 T1 (.tup [.int (i : Nat), .ref tt]) = H6
        intro s6 p6 f6 s16 O6
        have s06 := s1.trans s16
        have t6 := s06 _ _ ht1
        refine ⟨_, rfl, _, rfl, d, s, tt, 0, r.1, p, r.2.1, r.2.2, rfl, s06 _ _ hd, t6, s06 _ _ hpp, ?_⟩
        have notin : ¬ i ∈ fs.map (·.1) := fun hm => Nat.lt_irrefl _ ((mem i).mp hm).1
        have skip : ¬ Need g s i → ∀ k, k ∈ fs.map (·.1) ↔ k < i + 1 ∧ Need g s k := fun hn k => by
          rw [mem k]
          constructor
          · rintro ⟨a, b⟩
            exact ⟨by omega, b⟩
          · rintro ⟨a, b⟩
            refine ⟨?_, b⟩
            have : k ≠ i := fun e => hn (e ▸ b)
            omega
        cases em : sizeR s 0 r.2.1 with
        | none =>
          refine ⟨_, rfl, rfl, _, rfl, fs, _, _, _, rfl, f6, srt, skip ?_, fct, s16, p6⟩
          rintro ⟨r', _, _, _, er', ⟨m, em'⟩, _⟩
          rw [er] at er'
          cases er'
          rw [em] at em'
          cases em'
        | some m =>
          refine ⟨_, rfl, rfl, _, rfl, ?_⟩
          refine iteT ⟨_, rfl, tt, _, 0, _, rfl, rfl, SqT.of t6, rfl, _, rfl, dO, _, rfl, DGet.k (k := Sum.inr r.1) O6, _, rfl, ?_⟩
          rw [valV_szD, Option.isSome_map]
          cases eh : look o r.1 with
          | none =>
            refine ⟨fs, _, _, _, rfl, f6, srt, skip ?_, fct, s16, p6⟩
            rintro ⟨r', r1, rest1, e1, er', _, hre⟩
            rw [er] at er'
            cases er'
            rw [← eg] at e1
            cases e1
            obtain ⟨v, e2⟩ := down_reach hs wy fx hre
            rw [eh] at e2
            cases e2
          | some h =>
            have hfl : fs.length ≤ i := by
              have h1 : (fs.map (·.1)).length ≤ (List.range i).length := by
                have nd : (fs.map (·.1)).Nodup := srt.imp fun h => Nat.ne_of_lt h
                exact nodup_lenN nd fun k hk => List.mem_range.mpr ((mem k).mp hk).1
              rwa [List.length_map, List.length_range] at h1
            have hil : i < xs.length := (List.getElem?_eq_some_iff.mp hi).1
            have len : (fsD fs).length < sizeLine := by
              unfold fsD
              rw [List.length_map]
              exact Nat.lt_of_lt_of_le (show _ < 1000 by omega) (line1000 (Nat.le_refl _))
            have put : DPut H6 dF (.int (i : Nat)) (.int (h + m)) (upd H6 dF (.dK (fsD (fs ++ [(i, h + m)])))) := by
              have := DPut.k (k := Sum.inl (i : Int)) (v := .int (h + m)) f6 len
              rw [putK_snoc _ (fsD_keys fs notin)] at this
              unfold fsD at this ⊢
              rw [List.map_append]
              exact this
            refine ⟨_, rfl, _, rfl, tt, _, 0, _, rfl, rfl, SqT.of t6, rfl, dO, .int h, rfl, dget_sz O6 eh, _, rfl, _, _, rfl, rfl, _, rfl, _, rfl, dF, _, rfl, put, ?_⟩
            refine ⟨fs ++ [(i, h + m)], _, _, _, rfl, upd_same, ?_, fun k => ?_, fun p hp => ?_, s16.put hdF, p6.upd rfl⟩
            · rw [List.map_append, List.pairwise_append]
              refine ⟨srt, by simp, fun a ha b hb => ?_⟩
              have e1 : b = i := by simpa using hb
              rw [e1]
              exact ((mem a).mp ha).1
            · rw [List.map_append, List.mem_append, mem k]
              have hneed : Need g s i := ⟨r, r0, rest, eg.symm, er, ⟨m, em⟩, wy.rch _ _ eh⟩
              constructor
              · rintro (⟨a, b⟩ | hk)
                · exact ⟨by omega, b⟩
                · have e1 : k = i := by simpa using hk
                  rw [e1]
                  exact ⟨by omega, hneed⟩
              · rintro ⟨a, b⟩
                by_cases e1 : k = i
                · exact .inr (by simp [e1])
                · exact .inl ⟨by omega, b⟩
            · rcases List.mem_append.mp hp with hp | hp
              · exact fct p hp
              · rw [List.mem_singleton.mp hp]
                exact ⟨r, m, h, er, em, eh, rfl⟩
      · rintro σ H3 ⟨fs, v4, v5, v6, rfl, hf3, srt, mem, fct, s3, p3⟩
        refine ⟨_, rfl, q dF fs H3 srt (fun k => ?_) (fun r1 rest1 e => ?_) (s1.trans s3) p3 hdF0 hf3⟩
        · rw [mem k]
          constructor
          · exact fun h => h.2
          · intro h
            refine ⟨?_, h⟩
            obtain ⟨r, _, _, _, er, _⟩ := h
            have := (List.getElem?_eq_some_iff.mp er).1
            omega
        · rw [← eg] at e
          cases e
          exact ⟨o, wy, ⟨fx, sto.att⟩, fct⟩
theorem sc_needed : FnScope ["grammar", "rules"] ["grammar"] (defScope s_needed) := ⟨rfl, rfl, rfl, by decide +kernel, rfl, by decide +kernel, by decide +kernel⟩
theorem ok_needed {f : Addr} {fd : FuncData} (F : Fun K "needed" "needed" s_needed f fd) (T : Txt K mg C) (U_checked : Used P w K mg (CXo P w) 7 "checked" ["thing"] (spChecked C.NoGrammar)) (U_sizes_with : Used P w K mg CX0 4 "sizes_with" ["rules", "sizes"] (spSizesW)) (U_least_sizes : Used P w K mg CX0 3 "least_sizes" ["rules", "sign_size"] (spLeastS)) : FnOk P w K mg base (CXo P w) 8 f fd ["grammar"] (spNeeded C.NoGrammar) := by
  obtain ⟨f_checked, fd_checked, G_checked, m_checked, k_checked, b_checked⟩ := U_checked.ok
  obtain ⟨f_sizes_with, fd_sizes_with, G_sizes_with, m_sizes_with, k_sizes_with, b_sizes_with⟩ := U_sizes_with.ok
  obtain ⟨f_least_sizes, fd_least_sizes, G_least_sizes, m_least_sizes, k_least_sizes, b_least_sizes⟩ := U_least_sizes.ok
  refine F.okX sc_needed (fun vs H Q E h => ?_) (fun cdv A outer s H vs Q E hr h => ?_)
  · obtain ⟨x, d, rfl, _⟩ := h
    rfl
  · obtain ⟨x, d, rfl, den, hsh, hp, q, qe⟩ := h
    refine ⟨_, (pss_cons (ps_set (i := 1) sc_needed.nd rfl (Or.inl rfl) (pe_call (G_checked base) (hr.mono (by decide)) (by rfl) m_checked k_checked b_checked .nil sink_def.on (pa_cons (pv 0) pa_nil)))
      (pss_one (ps_ret (pe_callTy (call_list_dict rfl) (by rfl) T.z_list PyProof.Rows.Boot.«list» (pa_cons (pe_call (G_sizes_with base) (hr.mono (by decide)) (by rfl) m_sizes_with k_sizes_with b_sizes_with .nil pass0 (pa_cons (pv 1) (pa_cons (pe_call (G_least_sizes base) (hr.mono (by decide)) (by rfl) m_least_sizes k_least_sizes b_least_sizes .nil pass0 (pa_cons (pv 1) (pa_cons pe_int pa_nil))) pa_nil))) pa_nil))))), ?_⟩
    refine ⟨_, rfl, x, d, rfl, den, hsh, hp, fun e l xs ds ed hds hl => ?_, fun e => qe e H (Same.refl H) hp⟩
    obtain ⟨g, rfl, hg⟩ := gram_of e
    cases ed
    have s1 := Same.upd (o := .lst xs) hl
    refine ⟨_, rfl, _, rfl, l, xs, g, 0, rfl, upd_same, hds.same s1, hg, Int.le_refl _, hp.upd rfl, fun d s H' hok hfix hd e => ?_⟩
    subst e
    have s2 := Same.upd (o := .dK (szD s)) hd
    have s12 := s1.trans s2
    refine ⟨l, d, xs, g, s, rfl, s2 _ _ upd_same, hds.same s12, hg, upd_same, hok, (hp.upd rfl).upd rfl, fun dF fs H2 srt mem _ s3 p3 hdF0 hdF => ⟨dF, _, rfl, .inl hdF, fun lo hlo => ?_⟩⟩
    refine q g rfl hg lo s (fs.map (·.1)) _ hok hfix srt mem ((s12.trans s3).trans (Same.upd hlo)) (p3.upd rfl) (s12.free (s3.free hlo)) ?_
    rw [upd_same]
    unfold fsD
    rw [List.map_map, List.map_map]
    rfl
end
end FR


set_option linter.all false
set_option maxRecDepth 100000
set_option maxHeartbeats 4000000
namespace FR
open PySem L2

def nV (k : Nat) : V := .int (k : Int)
def stepD (p : Nat × Nat) : D := .tup [.int (p.1 : Int), .int (p.2 : Int)]
inductive PathG (g : Gram) (s : Sz) (z0 : Str) : Str → List (Nat × Nat) → Int → Prop
  | nil : PathG g s z0 z0 [] 0
  | snoc {z p : Str} {st : List (Nat × Nat)} {c m sp : Int} {num pl : Nat} {r : Rule} : PathG g s z0 z st c → g[num]? = some r → r.1 = z → r.2.1[pl]? = some p → isQ p = false → sizeR s 0 r.2.1 = some m → look s p = some sp → PathG g s z0 p (st ++ [(num, pl)]) (c + m - sp)
theorem PathG.trace {g : Gram} {s : Sz} {z0 z : Str} {st : List (Nat × Nat)} {c : Int} (hpos : ∀ z v, look s z = some v → 1 ≤ v) (h : PathG g s z0 z st c) : ∃ f : Nat → Str × Int, f 0 = (z0, 0) ∧ f st.length = (z, c) ∧ (∀ i, i ≤ st.length → 0 ≤ (f i).2 ∧ (f i).2 ≤ c) ∧
    ∀ i num pl, st[i]? = some (num, pl) → ∃ r m sp, g[num]? = some r ∧ r.1 = (f i).1 ∧ r.2.1[pl]? = some (f (i + 1)).1 ∧ isQ (f (i + 1)).1 = false ∧ sizeR s 0 r.2.1 = some m ∧ look s (f (i + 1)).1 = some sp ∧ (f (i + 1)).2 = (f i).2 + m - sp := by
  induction h with
  | nil => exact ⟨fun _ => (z0, 0), rfl, rfl, fun i _ => ⟨Int.le_refl _, Int.le_refl _⟩, fun i num pl e => by cases e⟩
  | @snoc z p st c m sp num pl r hp er hz epl hq em esp ih =>
    obtain ⟨f, f0, fn, fb, fs⟩ := ih
    obtain ⟨v, ev, hv⟩ := (sizeG_part hpos em).2 p (List.mem_of_getElem? epl) hq
    rw [esp] at ev
    cases ev
    have hc := (fb st.length (Nat.le_refl _)).1
    rw [fn] at hc
    refine ⟨fun i => if i ≤ st.length then f i else (p, c + m - sp), by simp [f0], ?_, fun i hi => ?_, fun i num' pl' e => ?_⟩
    · show (if (st ++ [(num, pl)]).length ≤ st.length then _ else _) = _
      rw [if_neg (by rw [List.length_append]; show ¬ st.length + 1 ≤ _; omega)]
    · show 0 ≤ (if i ≤ st.length then f i else (p, c + m - sp)).2 ∧ (if i ≤ st.length then f i else (p, c + m - sp)).2 ≤ c + m - sp
      by_cases h1 : i ≤ st.length
      · rw [if_pos h1]
        have := fb i h1
        exact ⟨this.1, by omega⟩
      · rw [if_neg h1]
        have hc : 0 ≤ c := hc
        exact ⟨by show 0 ≤ c + m - sp; omega, Int.le_refl _⟩
    · show ∃ r m' sp', g[num']? = some r ∧ r.1 = (if i ≤ st.length then f i else (p, c + m - sp)).1 ∧ r.2.1[pl']? = some (if i + 1 ≤ st.length then f (i + 1) else (p, c + m - sp)).1 ∧ isQ (if i + 1 ≤ st.length then f (i + 1) else (p, c + m - sp)).1 = false ∧ sizeR s 0 r.2.1 = some m' ∧ look s (if i + 1 ≤ st.length then f (i + 1) else (p, c + m - sp)).1 = some sp' ∧ (if i + 1 ≤ st.length then f (i + 1) else (p, c + m - sp)).2 = (if i ≤ st.length then f i else (p, c + m - sp)).2 + m' - sp'
      by_cases h1 : i < st.length
      · rw [List.getElem?_append_left h1] at e
        rw [if_pos (by omega), if_pos (by omega)]
        exact fs i num' pl' e
      · have hi : i = st.length := by
          have := (List.getElem?_eq_some_iff.mp e).1
          rw [List.length_append] at this
          simp at this
          omega
        subst hi
        rw [List.getElem?_append_right (Nat.le_refl _), Nat.sub_self] at e
        cases e
        rw [if_pos (Nat.le_refl _), if_neg (by omega), fn]
        exact ⟨r, m, sp, er, hz, epl, hq, em, esp, rfl⟩
theorem szSum_nn {s : Sz} (hpos : ∀ z v, look s z = some v → 1 ≤ v) (ps : List Str) : 0 ≤ szSum s ps := by
  unfold szSum
  induction unQ ps with
  | nil => exact Int.le_refl _
  | cons p qs ih =>
    rw [List.map_cons, List.sum_cons]
    have : 0 ≤ (look s p).getD 0 := by
      cases e : look s p with
      | none => exact Int.le_refl _
      | some v => have := hpos p v e; show 0 ≤ v; omega
    omega
theorem szSum_one {s : Sz} {z : Str} {v : Int} (hq : isQ z = false) (e : look s z = some v) : szSum s [z] = v := by
  unfold szSum unQ
  rw [List.filter_cons, hq]
  show (List.map (fun p => (look s p).getD 0) [z]).sum = v
  rw [List.map_cons, e]
  show v + 0 = v
  omega
theorem szSum_sign {s : Sz} {z : Str} (hq : isQ z = true) : szSum s [z] = 0 := by
  unfold szSum unQ
  rw [List.filter_cons, hq]
  rfl
def TupsOk (H : Hp) (ts : List V) (bs : List (List Str)) : Prop := ts.length = bs.length ∧ ∀ (j : Nat) (b : List Str), bs[j]? = some b → ∃ T, ts[j]? = some (.ref T) ∧ H T = some (.tup (b.map V.str))
def KeepT (H H' : Hp) : Prop := ∀ T xs, H T = some (.tup xs) → H' T = some (.tup xs)
theorem KeepT.of {H H' : Hp} (s : Same H H') : KeepT H H' := fun T xs e => s _ _ e
theorem KeepT.trans {H H' H'' : Hp} (a : KeepT H H') (b : KeepT H' H'') : KeepT H H'' := fun T xs e => b T xs (a T xs e)
theorem KeepT.lst {H : Hp} {a : Addr} {xs : List V} {o : HO} (h : H a = some (.lst xs)) : KeepT H (upd H a o) := fun T ys e => by
  rw [upd_ne (fun z => by rw [z, h] at e; cases e)]
  exact e
theorem TupsOk.mono {H H' : Hp} {ts : List V} {bs : List (List Str)} (h : TupsOk H ts bs) (k : KeepT H H') : TupsOk H' ts bs := ⟨h.1, fun j b e => by obtain ⟨T, e1, e2⟩ := h.2 j b e; exact ⟨T, e1, k _ _ e2⟩⟩
theorem TupsOk.snoc {H : Hp} {ts : List V} {bs : List (List Str)} {T : Addr} {b : List Str} (h : TupsOk H ts bs) (e : H T = some (.tup (b.map V.str))) : TupsOk H (ts ++ [.ref T]) (bs ++ [b]) := by
  refine ⟨by rw [List.length_append, List.length_append, h.1]; rfl, fun j b' e' => ?_⟩
  by_cases hj : j < bs.length
  · rw [List.getElem?_append_left hj] at e'
    obtain ⟨T', e1, e2⟩ := h.2 j b' e'
    exact ⟨T', by rw [List.getElem?_append_left (by rw [h.1]; exact hj)]; exact e1, e2⟩
  · have hj2 : j = bs.length := by
      have := (List.getElem?_eq_some_iff.mp e').1
      rw [List.length_append] at this
      simp at this
      omega
    subst hj2
    rw [List.getElem?_append_right (Nat.le_refl _), Nat.sub_self] at e'
    cases e'
    exact ⟨T, by rw [List.getElem?_append_right (by rw [h.1]; exact Nat.le_refl _), h.1, Nat.sub_self]; rfl, e⟩
def spSmall : Sp := fun vs H Q _ => ∃ (l d : Addr) (xs : List V) (g : Gram) (s : Sz), vs = [.ref l, .ref d] ∧ H l = some (.lst xs) ∧ Dens H xs (g.map ruleD) ∧ okGram g = true ∧ H d = some (.dK (szD s)) ∧ SzOk g 0 s ∧ Fix g 0 s ∧ Plain H ∧
  ∀ dM e H', SmOk g s e → Same H H' → Plain H' → H dM = none → H' dM = some (.dK (szD e)) → Q (.ref dM) H'
def spSmallRow : Sp := fun vs H Q _ => ∃ (l dM p : Addr) (xs : List V) (g : Gram) (s e : Sz) (ps : List Str), vs = [.ref l, .ref dM, .ref p] ∧ H l = some (.lst xs) ∧ Dens H xs (g.map ruleD) ∧ okGram g = true ∧ H dM = some (.dK (szD e)) ∧ SzOk g 0 s ∧ SmOk g s e ∧ H p = some (.tup (ps.map V.str)) ∧ ps.length ≤ 6 ∧ (∀ x ∈ ps, isQ x = false → ∃ v, look s x = some v) ∧ szSum s ps ≤ 1000 ∧ Plain H ∧
  ∀ lr (ks : List Nat) H', RowsG g (unQ ps) ks → (ks.length : Int) = szSum s ps → Same H H' → Plain H' → H lr = none → H' lr = some (.lst (ks.map nV)) → Q (.ref lr) H'
def spStepsTo : Sp := fun vs H Q _ => ∃ (l dS : Addr) (xs : List V) (g : Gram) (s o : Sz) (z0 z : Str) (c : Int) (kvs : List (Key × V)), vs = [.ref l, .ref dS, .str z] ∧ H l = some (.lst xs) ∧ Dens H xs (g.map ruleD) ∧ okGram g = true ∧ H dS = some (.dK kvs) ∧ SzOk g 0 s ∧ WyOk g s z0 o ∧ DownFix g s o ∧ StOk H g s z0 o kvs ∧ look o z = some c ∧ c ≤ 1000 ∧ Plain H ∧
  ∀ lp (ts : List V) st H', PathG g s z0 z st c → Dens H' ts (st.map stepD) → Same H H' → Plain H' → H lp = none → H' lp = some (.lst ts) → Q (.ref lp) H'
def spRowDown : Sp := fun vs H Q _ => ∃ (l d : Addr) (k : Nat) (xs : List V) (r0 : Rule) (rest : List Rule) (s : Sz) (r : Rule) (m : Int), vs = [.ref l, .ref d, .int (k : Int)] ∧ H l = some (.lst xs) ∧ Dens H xs ((r0 :: rest).map ruleD) ∧ okGram (r0 :: rest) = true ∧ H d = some (.dK (szD s)) ∧ SzOk (r0 :: rest) 0 s ∧ Fix (r0 :: rest) 0 s ∧ (r0 :: rest)[k]? = some r ∧ sizeR s 0 r.2.1 = some m ∧ Reach (r0 :: rest) s r0.1 r.1 ∧
  (∀ o h, WyOk (r0 :: rest) s r0.1 o → DF (r0 :: rest) s r0.1 o → look o r.1 = some h → h + m ≤ 1000) ∧ Plain H ∧
  ∀ lr (ks : List Nat) o h H', WyOk (r0 :: rest) s r0.1 o → DF (r0 :: rest) s r0.1 o → look o r.1 = some h → RowsG (r0 :: rest) [r0.1] ks → k ∈ ks → (ks.length : Int) = h + m → Same H H' → Plain H' → H lr = none → H' lr = some (.lst (ks.map nV)) → Q (.ref lr) H'
def spRowWith : Sp := fun vs H Q _ => ∃ (x : V) (k : Nat) (g : Gram) (s : Sz), vs = [x, .int (k : Int)] ∧ Den H x (gramD g) ∧ okGram g = true ∧ SzOk g 0 s ∧ Fix g 0 s ∧ Need g s k ∧ (∀ r0 rest r m o h, g = r0 :: rest → g[k]? = some r → sizeR s 0 r.2.1 = some m → WyOk g s r0.1 o → DF g s r0.1 o → look o r.1 = some h → h + m ≤ 1000) ∧ Plain H ∧
  ∀ lr (ks : List Nat) r0 rest r m o h H', g = r0 :: rest → g[k]? = some r → sizeR s 0 r.2.1 = some m → WyOk g s r0.1 o → DF g s r0.1 o → look o r.1 = some h → RowsG g [r0.1] ks → k ∈ ks → (ks.length : Int) = h + m → Same H H' → Plain H' → H lr = none → H' lr = some (.lst (ks.map nV)) → Q (.ref lr) H'
section
variable {P : Program} {w : World} {K : PySem.W.Frag} {mg : Str → Option Value} {base : Heap} {C : Adr}
theorem sc_smallest_rules : FnScope ["rules", "sizes", "smallest", "number", "rule", "size"] ["rules", "sizes"] (defScope s_smallest_rules) := ⟨rfl, rfl, rfl, by decide +kernel, rfl, by decide +kernel, by decide +kernel⟩
theorem ok_smallest_rules {f : Addr} {fd : FuncData} (F : Fun K "smallest_rules" "smallest_rules" s_smallest_rules f fd) (T : Txt K mg C) (U_size_of_rule : Used P w K mg CX0 2 "size_of_rule" ["sizes", "rule", "sign_size"] (spSizeR)) : FnOk P w K mg base CX0 3 f fd ["rules", "sizes"] (spSmall) := by
  obtain ⟨f_size_of_rule, fd_size_of_rule, G_size_of_rule, m_size_of_rule, k_size_of_rule, b_size_of_rule⟩ := U_size_of_rule.ok
  refine F.ok sc_smallest_rules (fun vs H Q E h => ?_) (fun cdv A outer s H vs Q E hr h => ?_)
  · obtain ⟨l, d, xs, g, s, rfl, _⟩ := h
    rfl
  · obtain ⟨l, d, xs, g, s, rfl, hl, hds, hg, hd, hs, hfx, hp, q⟩ := h
    have hu := hu_of hr
    refine ⟨_, (pss_cons (ps_set (i := 2) sc_smallest_rules.nd rfl (Or.inl rfl) pe_dnewK)
      (pss_cons (ps_for PassesOwn.never rfl (pi_enum K rfl rfl T.z_enumerate (pa_cons (pv 0) pa_nil)) (pg_tupK K rfl (n := 2) rfl (pgs_cons (pg_name (i := 3) sc_smallest_rules.nd rfl (Or.inl rfl)) (pgs_cons (pg_name (i := 4) sc_smallest_rules.nd rfl (Or.inl rfl)) pgs_nil))) (pss_cons (ps_set (i := 5) sc_smallest_rules.nd rfl (Or.inl rfl) (pe_call (G_size_of_rule base) (hr.mono (by decide)) (by rfl) m_size_of_rule k_size_of_rule b_size_of_rule .nil pass0 (pa_cons (pv 1) (pa_cons (pv 4) (pa_cons pe_int pa_nil)))))
      (pss_one (ps_if (PW.pt (pw_and (pt_cmpR op_notN (pv 5) pe_non (nomark _)) (pw_and1 (pt_cmpR op_eq (pv 5) (pe_dget hu (pv 1) (pe_ix (ix_tupK K rfl) (pv 4) pe_int (fun _ _ => rfl)) (fun _ _ => rfl)) (nomark _))))) (pss_one (ps_dput hu (pv 2) (pe_ix (ix_tupK K rfl) (pv 4) pe_int (fun _ _ => rfl)) (pv 3) rfl)) pss_nil))))
      (pss_one (ps_ret (pv 2))))), ?_⟩
    have hg60 := gram_60 hg
    have hxl : xs.length = g.length := by rw [hds.len, List.length_map]
    intro dM hdM
    have s1 := Same.upd (o := .dK []) hdM
    refine ⟨_, rfl, l, rfl, ⟨xs, .inl (s1 _ _ hl)⟩, ?_⟩
    refine for_enum (K := K) (a := l) (xs := xs) (fun i σ H2 => ∃ (e : Sz) (v3 v4 v5 : Option V), σ = [some (.ref l), some (.ref d), some (.ref dM), v3, v4, v5] ∧ H2 dM = some (.dK (szD e)) ∧ (e.map (·.1)).Nodup ∧ e.length ≤ i ∧
        (∀ z k, look e z = some k → ∃ (n : Nat) (r : Rule) (v : Int), k = (n : Int) ∧ g[n]? = some r ∧ r.1 = z ∧ sizeR s 0 r.2.1 = some v ∧ look s z = some v) ∧ (∀ j, j < i → ∀ r v, g[j]? = some r → sizeR s 0 r.2.1 = some v → look s r.1 = some v → ∃ k, look e r.1 = some k) ∧ Same H H2 ∧ Plain H2)
      ⟨[], none, none, none, rfl, upd_same, List.nodup_nil, Nat.le_refl _, (fun z k h => nomatch h), (fun j hj => absurd hj (Nat.not_lt_zero _)), s1, hp.upd rfl⟩ ?_ ?_ ?_
    · rintro i σ H2 _ ⟨_, _, _, _, rfl, _, _, _, _, _, s2, _⟩
      exact SqL.of (s2 _ _ hl)
    · rintro i y T1 σ H2 hi hT1 ⟨e, v3, v4, v5, rfl, m2, nd, el, ent, has, s2, p2⟩
      obtain ⟨r, t, p, er, rfl, ht, hpp⟩ := rule_at hds hi
      have hil : i < xs.length := (List.getElem?_eq_some_iff.mp hi).1
      refine ⟨T1, _, rfl, SqT.of upd_same, rfl, _, _, rfl, _, _, rfl, rfl, ?_⟩
      have s6 := Same.upd (o := .tup [.int (i : Nat), .ref t]) hT1
      have p6 : Plain (upd H2 T1 (.tup [.int (i : Nat), .ref t])) := p2.upd rfl
      have m6 := s6 _ _ m2
      have s06 := s2.trans s6
      revert s6 p6 m6 s06
      generalize upd H2 T1 (.tup [.int (i : Nat), .ref t]) = H6
      intro s6 p6 m6 s06
      have t6 := s06 _ _ ht
      have skip : (∀ v, sizeR s 0 r.2.1 = some v → look s r.1 = some v → ∃ k, look e r.1 = some k) → ∀ j, j < i + 1 → ∀ r v, g[j]? = some r → sizeR s 0 r.2.1 = some v → look s r.1 = some v → ∃ k, look e r.1 = some k := fun hn j hj r' v er' e1 e2 => by
        by_cases hji : j = i
        · subst hji
          rw [er] at er'
          cases er'
          exact hn v e1 e2
        · exact has j (by omega) r' v er' e1 e2
      refine ⟨_, rfl, _, rfl, d, s, t, 0, r.1, p, r.2.1, r.2.2, rfl, s06 _ _ hd, t6, s06 _ _ hpp, ?_⟩
      cases em : sizeR s 0 r.2.1 with
      | none => exact ⟨_, rfl, rfl, _, rfl, e, _, _, _, rfl, m6, nd, by omega, ent, skip (fun v e1 => by rw [em] at e1; cases e1), s06, p6⟩
      | some m =>
        obtain ⟨v, ev, _⟩ := hfx r (List.mem_of_getElem? er) m em
        refine ⟨_, rfl, rfl, _, rfl, ?_⟩
        refine iteT ⟨_, rfl, _, rfl, _, rfl, t, _, 0, _, rfl, rfl, SqT.of t6, rfl, d, .int v, rfl, dget_sz (s06 _ _ hd) ev, rfl, _, rfl, ite2 (fun hmv => ?_) fun hmv => ?_⟩
        · have hmv' : m = v := V.int.inj (of_decide_eq_true hmv)
          have len : (szD e).length < sizeLine := by
            unfold szD
            rw [List.length_map]
            exact Nat.lt_of_lt_of_le (show _ < 1000 by omega) (line1000 (Nat.le_refl _))
          have put : DPut H6 dM (.str r.1) (.int (i : Nat)) (upd H6 dM (.dK (szD (putS e r.1 (i : Nat))))) := by
            have := DPut.k (k := Sum.inr r.1) (v := .int (i : Nat)) m6 len
            rw [put_szD nd] at this
            exact this
          refine ⟨_, rfl, _, rfl, _, rfl, t, _, 0, _, rfl, rfl, SqT.of t6, rfl, dM, _, rfl, put, ?_⟩
          refine ⟨putS e r.1 (i : Nat), _, _, _, rfl, upd_same, ?_, ?_, fun z k hk => ?_, fun j hj r' v' er' e1 e2 => ?_, s06.put hdM, p6.upd rfl⟩
          · rw [put_keys]
            split
            · exact nd
            · rename_i hn
              exact nd_snoc nd hn
          · rw [put_len]
            split <;> omega
          · rw [look_put] at hk
            split at hk
            · rename_i hz
              cases hk
              exact ⟨i, r, v, rfl, er, hz.symm, by rw [em, hmv'], by rw [hz]; exact ev⟩
            · exact ent z k hk
          · rw [look_put]
            split
            · exact ⟨_, rfl⟩
            · rename_i hz
              by_cases hji : j = i
              · subst hji
                rw [er] at er'
                cases er'
                exact absurd rfl hz
              · exact has j (by omega) r' v' er' e1 e2
        · exact ⟨e, _, _, _, rfl, m6, nd, by omega, ent, skip (fun v' e1 e2 => by
            rw [em] at e1
            rw [ev] at e2
            cases e1
            cases e2
            exact absurd (decide_eq_true rfl) hmv), s06, p6⟩
    · rintro σ H2 ⟨e, v3, v4, v5, rfl, m2, nd, el, ent, has, s2, p2⟩
      refine ⟨_, rfl, q dM e H2 (fun z v ez => ?_) s2 p2 hdM m2⟩
      obtain ⟨r, hr', hz, m, em, hm⟩ := hs.hd z v ez
      obtain ⟨v', ev, hv'⟩ := hfx r hr' m em
      rw [hz, ez] at ev
      cases ev
      have emv : m = v := by omega
      obtain ⟨j, hj, ej⟩ := List.mem_iff_getElem.mp hr'
      have er : g[j]? = some r := by rw [List.getElem?_eq_getElem hj, ej]
      obtain ⟨k, ek⟩ := has j (by omega) r v er (by rw [em, emv]) (by rw [hz]; exact ez)
      obtain ⟨n, r', v2, e1, e2, e3, e4, e5⟩ := ent r.1 k ek
      rw [hz] at ek e3 e5
      rw [ez] at e5
      cases e5
      exact ⟨n, r', by rw [ek, e1], e2, e3, e4⟩
theorem sc_smallest_row : FnScope ["rules", "smallest", "parts", "row", "waiting", "part"] ["rules", "smallest", "parts"] (defScope s_smallest_row) := ⟨rfl, rfl, rfl, by decide +kernel, rfl, by decide +kernel, by decide +kernel⟩
theorem ok_smallest_row {f : Addr} {fd : FuncData} (F : Fun K "smallest_row" "smallest_row" s_smallest_row f fd) (T : Txt K mg C) : FnOk P w K mg base CX0 2 f fd ["rules", "smallest", "parts"] (spSmallRow) := by
  refine F.ok sc_smallest_row (fun vs H Q E h => ?_) (fun cdv A outer s H vs Q E hr h => ?_)
  · obtain ⟨l, dM, p, xs, g, s, e, ps, rfl, _⟩ := h
    rfl
  · obtain ⟨l, dM, p, xs, g, s, e, ps, rfl, hl, hds, hg, hM, hs, hsm, hpt, h6, hnm, hsum, hp, q⟩ := h
    have hu := hu_of hr
    refine ⟨_, (pss_cons (ps_set (i := 3) sc_smallest_row.nd rfl (Or.inl rfl) (pe_lst pa_nil))
      (pss_cons (ps_set (i := 4) sc_smallest_row.nd rfl (Or.inl rfl) (pe_list_revT K rfl rfl rfl T.z_list rfl T.z_reversed (pa_cons (pv 2) pa_nil)))
      (pss_cons (ps_while PassesOwn.never (pt_truthK K rfl (pv 4) (fun _ => rfl)) (pss_cons (ps_set (i := 5) sc_smallest_row.nd rfl (Or.inl rfl) (pe_bm0K K rfl PySem.F.plainAttrs_list PySem.F.slot_list_pop PySem.F.type_list_pop mt_pop (pv 4)))
      (pss_one (ps_if (pt_not (pt_val (pe_bmK K rfl PySem.F.plainAttrs_str PySem.F.slot_str_startswith PySem.F.type_str_startswith mt_str_startswith (pv 5) (pa_cons pe_str pa_nil)))) (pss_cons (ps_expr (pe_bmK K rfl PySem.F.plainAttrs_list PySem.F.slot_list_append PySem.F.type_list_append mt_append (pv 3) (pa_cons (pe_dget hu (pv 1) (pv 5) (fun _ _ => rfl)) pa_nil)))
      (pss_one (ps_expr (pe_bmK K rfl PySem.F.plainAttrs_list PySem.F.slot_list_extend PySem.F.type_list_extend mt_extend (pv 4) (pa_cons (pe_list_revT K rfl rfl rfl T.z_list rfl T.z_reversed (pa_cons (pe_ix (ix_tupK K rfl) (pe_ix (ix_listK K rfl) (pv 0) (pe_dget hu (pv 1) (pv 5) (fun _ _ => rfl)) (fun _ _ => rfl)) pe_int (fun _ _ => rfl)) pa_nil)) pa_nil))))) pss_nil))))
      (pss_one (ps_ret (pv 3)))))), ?_⟩
    have hxl : xs.length = g.length := by rw [hds.len, List.length_map]
    refine ⟨Nat.zero_le _, fun lr hlr => ?_⟩
    have s1 := Same.upd (o := .lst []) hlr
    refine ⟨_, rfl, p, _, rfl, SqT.of (s1 _ _ hpt), fun lw hlw => ?_⟩
    have s2 := Same.upd (o := .lst (ps.map V.str).reverse) hlw
    have nwr : lw ≠ lr := fun z => by rw [z, upd_same] at hlw; cases hlw
    have hlw0 : H lw = none := s1.free hlw
    have hr2 : upd (upd H lr (.lst [])) lw (.lst (ps.map V.str).reverse) lr = some (.lst (([] : List Nat).map nV)) := s2 _ _ upd_same
    have hw2 : upd (upd H lr (.lst [])) lw (.lst (ps.map V.str).reverse) lw = some (.lst (ps.reverse.map V.str)) := by rw [upd_same, List.map_reverse]
    have p2 : Plain (upd (upd H lr (.lst [])) lw (.lst (ps.map V.str).reverse)) := (hp.upd rfl).upd rfl
    have s02 := s1.trans s2
    revert hr2 hw2 p2 s02
    generalize upd (upd H lr (.lst [])) lw (.lst (ps.map V.str).reverse) = H2
    intro hr2 hw2 p2 s02
    refine ⟨fun μ σ H3 => ∃ (ks : List Nat) (zs : List Str) (v5 : Option V), σ = [some (.ref l), some (.ref dM), some (.ref p), some (.ref lr), some (.ref lw), v5] ∧ H3 lr = some (.lst (ks.map nV)) ∧ H3 lw = some (.lst (zs.map V.str)) ∧ (∀ x ∈ zs, isQ x = false → ∃ v, look s x = some v) ∧ (∀ rest, RowsG g (unQ zs.reverse) rest → RowsG g (unQ ps) (ks ++ rest)) ∧ (ks.length : Int) + szSum s zs = szSum s ps ∧ zs.length ≤ 6 + 6 * ks.length ∧ μ = 7 * (szSum s zs).toNat + zs.length ∧ Same H H3 ∧ Plain H3,
      ⟨_, [], ps.reverse, none, rfl, hr2, hw2, fun x hx => hnm x (List.mem_reverse.mp hx), fun rest h => by rw [List.reverse_reverse] at h; exact h, by rw [szSum_rev]; show (0 : Int) + _ = _; omega, by rw [List.length_reverse]; exact h6, rfl, s02, p2⟩, ?_⟩
    rintro μ σ H3 ⟨ks, zs, v5, rfl, hr3, hw3, hz3, hrow, hsm3, hzl, hμ, s3, p3⟩
    have hnn := szSum_nn hs.pos zs
    have hkl : ks.length ≤ 1000 := by omega
    refine ⟨_, rfl, _, .inl ⟨_, SqL.of hw3, rfl⟩, ?_⟩
    rcases List.eq_nil_or_concat zs with hz | ⟨zs', z, hz⟩
    · subst hz
      refine ⟨_, rfl, q lr ks H3 ?_ ?_ s3 p3 hlr hr3⟩
      · have := hrow [] .nil
        rwa [List.append_nil] at this
      · rw [szSum_nil] at hsm3
        omega
    rw [List.concat_eq_append] at hz
    subst hz
    have hne : (!((zs' ++ [z]).map V.str).isEmpty) = true := by simp
    rw [hne]
    refine iteT ⟨_, fun _ _ h => h, ?_⟩
    have elast : ((zs' ++ [z]).map V.str)[((zs' ++ [z]).map V.str).length - 1]? = some (.str z) := by
      rw [List.map_append, List.length_append]
      show (_ ++ [V.str z])[_ + 1 - 1]? = _
      rw [Nat.add_sub_cancel, List.getElem?_append_right (Nat.le_refl _), Nat.sub_self]
      rfl
    have edrop : ((zs' ++ [z]).map V.str).dropLast = zs'.map V.str := by rw [List.map_append]; exact List.dropLast_concat
    refine ⟨_, rfl, .inl ⟨rfl, _, SqL.of hw3⟩, lw, _, _, rfl, rfl, hw3, elast, ?_⟩
    rw [edrop]
    have s4 : Same H (upd H3 lw (.lst (zs'.map V.str))) := s3.put hlw0
    have hw4 : upd H3 lw (.lst (zs'.map V.str)) lw = some (.lst (zs'.map V.str)) := upd_same
    have hr4 : upd H3 lw (.lst (zs'.map V.str)) lr = some (.lst (ks.map nV)) := by rw [upd_ne nwr.symm]; exact hr3
    have p4 : Plain (upd H3 lw (.lst (zs'.map V.str))) := p3.upd rfl
    revert s4 hw4 hr4 p4
    generalize upd H3 lw (.lst (zs'.map V.str)) = H4
    intro s4 hw4 hr4 p4
    have hzs' : ∀ x ∈ zs', isQ x = false → ∃ v, look s x = some v := fun x hx => hz3 x (List.mem_append_left _ hx)
    rw [szSum_app] at hsm3 hnn hμ
    rw [List.length_append] at hzl hμ
    have hzl : zs'.length + 1 ≤ 6 + 6 * ks.length := hzl
    have hμ : μ = 7 * (szSum s zs' + szSum s [z]).toNat + (zs'.length + 1) := hμ
    have hnn' := szSum_nn hs.pos zs'
    refine ⟨_, rfl, rfl, _, _, rfl, rfl, _, rfl, ?_⟩
    by_cases hq : isQ z = true
    · have hq2 : Txt.startswith z "'" = true := hq
      rw [hq2]
      rw [szSum_sign hq] at hsm3 hμ
      refine ⟨_, ?_, ks, zs', _, rfl, hr4, hw4, hzs', fun rest h => hrow rest ?_, by omega, by omega, rfl, s4, p4⟩
      · rw [hμ, Int.add_zero]
        omega
      · rw [List.reverse_append]
        show RowsG g (unQ (z :: zs'.reverse)) rest
        have : unQ (z :: zs'.reverse) = unQ zs'.reverse := by unfold unQ; rw [List.filter_cons, hq]; rfl
        rw [this]
        exact h
    · have hq' : isQ z = false := Bool.eq_false_iff.mpr hq
      have hq2 : Txt.startswith z "'" = false := hq'
      rw [hq2]
      obtain ⟨v, ev⟩ := hz3 z (List.mem_append_right _ (List.mem_singleton.mpr rfl)) hq'
      obtain ⟨k, r, ek, er, hrz, em⟩ := hsm z v ev
      have hv := sizeR_sum hs.pos em
      rw [szSum_one hq' ev] at hsm3 hμ
      have hok : okRule r = true := by
        unfold okGram at hg
        rw [Bool.and_eq_true] at hg
        exact List.all_eq_true.mp hg.2 r (List.mem_of_getElem? er)
      have hr6 : r.2.1.length ≤ 6 := by
        unfold okRule at hok
        simp only [Bool.and_eq_true, decide_eq_true_eq] at hok
        exact hok.2.1.1
      have hnp := szSum_nn hs.pos r.2.1
      have hkx : k < xs.length := by rw [hxl]; exact (List.getElem?_eq_some_iff.mp er).1
      have hix : xs[k]? = some xs[k] := List.getElem?_eq_getElem hkx
      obtain ⟨r', tt, pp, er', ey', ht1, hpp⟩ := rule_at hds hix
      rw [er] at er'
      cases er'
      have ax : atI xs (k : Int) = some (.ref tt) := by rw [← ey']; exact atI_nat hix
      refine ⟨_, rfl, .inl ⟨rfl, _, SqL.of hr4⟩, _, rfl, _, rfl, dM, .int (k : Int), rfl, dget_sz (s4 _ _ hM) ek, lr, _, _, rfl, rfl, hr4, by rw [List.length_map, sizeLine_eq]; omega, ?_⟩
      have er9 : ks.map nV ++ [V.int (k : Int)] = (ks ++ [k]).map nV := by rw [List.map_append]; rfl
      rw [er9]
      have s5 : Same H (upd H4 lr (.lst ((ks ++ [k]).map nV))) := s4.put hlr
      have hw5 : upd H4 lr (.lst ((ks ++ [k]).map nV)) lw = some (.lst (zs'.map V.str)) := by rw [upd_ne nwr]; exact hw4
      have hr5 : upd H4 lr (.lst ((ks ++ [k]).map nV)) lr = some (.lst ((ks ++ [k]).map nV)) := upd_same
      have p5 : Plain (upd H4 lr (.lst ((ks ++ [k]).map nV))) := p4.upd rfl
      revert s5 hw5 hr5 p5
      generalize upd H4 lr (.lst ((ks ++ [k]).map nV)) = H5
      intro s5 hw5 hr5 p5
      refine ⟨_, rfl, .inl ⟨rfl, _, SqL.of hw5⟩, _, rfl, _, rfl, _, rfl, dM, .int (k : Int), rfl, dget_sz (s5 _ _ hM) ek, l, _, _, _, rfl, rfl, SqL.of (s5 _ _ hl), ax, tt, _, 1, _, rfl, rfl, SqT.of (s5 _ _ ht1), rfl, pp, _, rfl, SqT.of (s5 _ _ hpp), fun lv hlv => ?_⟩
      have s6 := Same.upd (o := .lst (r.2.1.map V.str).reverse) hlv
      refine ⟨lw, lv, _, _, rfl, rfl, s6 _ _ hw5, upd_same, by rw [List.length_reverse, List.length_map, List.length_map, sizeLine_eq]; omega, ?_⟩
      have ew : zs'.map V.str ++ (r.2.1.map V.str).reverse = (zs' ++ r.2.1.reverse).map V.str := by rw [List.map_append, List.map_reverse]
      rw [ew]
      refine ⟨_, ?_, ks ++ [k], zs' ++ r.2.1.reverse, _, rfl, by rw [upd_ne nwr.symm]; exact s6 _ _ hr5, upd_same, fun x hx hxq => ?_, fun rest h => ?_, ?_, ?_, rfl, (s5.trans s6).put hlw0, (p5.upd rfl).upd rfl⟩
      · rw [hμ, szSum_app, szSum_rev, List.length_append, List.length_reverse]
        omega
      · rcases List.mem_append.mp hx with hx | hx
        · exact hzs' x hx hxq
        · obtain ⟨v', e1, _⟩ := (sizeG_part hs.pos em).2 x (List.mem_reverse.mp hx) hxq
          exact ⟨v', e1⟩
      · rw [List.append_assoc]
        refine hrow (k :: rest) ?_
        rw [List.reverse_append] at h ⊢
        rw [List.reverse_reverse, unQ_app] at h
        have e1 : unQ ([z].reverse ++ zs'.reverse) = z :: unQ zs'.reverse := by
          show unQ (z :: zs'.reverse) = _
          unfold unQ
          rw [List.filter_cons, hq']
          rfl
        rw [e1, ← hrz]
        exact RowsG.cons er h
      · rw [szSum_app, szSum_rev, List.length_append]
        show ((ks.length + 1 : Nat) : Int) + _ = _
        omega
      · rw [List.length_append, List.length_append, List.length_reverse]
        show _ ≤ 6 + 6 * (ks.length + 1)
        omega
theorem sc_steps_to : FnScope ["rules", "steps", "head", "found", "step"] ["rules", "steps", "head"] (defScope s_steps_to) := ⟨rfl, rfl, rfl, by decide +kernel, rfl, by decide +kernel, by decide +kernel⟩
theorem ok_steps_to {f : Addr} {fd : FuncData} (F : Fun K "steps_to" "steps_to" s_steps_to f fd) (T : Txt K mg C) : FnOk P w K mg base CX0 2 f fd ["rules", "steps", "head"] (spStepsTo) := by
  refine F.ok sc_steps_to (fun vs H Q E h => ?_) (fun cdv A outer s H vs Q E hr h => ?_)
  · obtain ⟨l, dS, xs, g, s, o, z0, z, c, kvs, rfl, _⟩ := h
    rfl
  · obtain ⟨l, dS, xs, g, s, o, z0, z, c, kvs, rfl, hl, hds, hg, hS, hs, wy, fx, st, ez, hc, hp, q⟩ := h
    have hu := hu_of hr
    refine ⟨_, (pss_cons (ps_set (i := 3) sc_steps_to.nd rfl (Or.inl rfl) (pe_lst pa_nil))
      (pss_cons (ps_set (i := 4) sc_steps_to.nd rfl (Or.inl rfl) (pe_dget hu (pv 1) (pv 2) (fun _ _ => rfl)))
      (pss_cons (ps_while PassesOwn.never (pt_cmpR op_notN (pv 4) pe_non (nomark _)) (pss_cons (ps_expr (pe_bmK K rfl PySem.F.plainAttrs_list PySem.F.slot_list_append PySem.F.type_list_append mt_append (pv 3) (pa_cons (pv 4) pa_nil)))
      (pss_one (ps_set (i := 4) sc_steps_to.nd rfl (Or.inl rfl) (pe_dget hu (pv 1) (pe_ix (ix_tupK K rfl) (pe_ix (ix_listK K rfl) (pv 0) (pe_ix (ix_tupK K rfl) (pv 4) pe_int (fun _ _ => rfl)) (fun _ _ => rfl)) pe_int (fun _ _ => rfl)) (fun _ _ => rfl))))))
      (pss_one (ps_ret (pe_list_rev rfl rfl T.z_list rfl T.z_reversed (pa_cons (pv 3) pa_nil))))))), ?_⟩
    have hxl : xs.length = g.length := by rw [hds.len, List.length_map]
    have valOf : ∀ {H' : Hp}, Same H H' → ∀ z c, look o z = some c → ∃ v, DGet H' dS (.str z) (some v) ∧ ((z = z0 ∧ v = .non) ∨ (z ≠ z0 ∧ ∃ (T : Addr) (num pl : Nat) (r : Rule) (m h sp : Int), v = .ref T ∧ H' T = some (.tup [.int (num : Int), .int (pl : Int)]) ∧ g[num]? = some r ∧ r.2.1[pl]? = some z ∧ isQ z = false ∧ sizeR s 0 r.2.1 = some m ∧ look o r.1 = some h ∧ look s z = some sp ∧ h + m - sp = c ∧ h < c)) := fun {H'} sm z c e => by
      have dg := DGet.k (k := Sum.inr z) (sm _ _ hS)
      rcases st z c e with ⟨h1, h2⟩ | ⟨hne, T, num, pl, r, m, h, sp, a, b, e1, e2, e3, e4, e5, e6, e7⟩
      · rw [h2] at dg
        exact ⟨_, dg, .inl ⟨h1, rfl⟩⟩
      · rw [a] at dg
        obtain ⟨v, ev, hv⟩ := fx r (List.mem_of_getElem? e1) z (List.mem_of_getElem? e2) m h sp e4 e5 e3 e6
        rw [e] at ev
        cases ev
        obtain ⟨v2, ev2, hm⟩ := (sizeG_part hs.pos e4).2 z (List.mem_of_getElem? e2) e3
        rw [e6] at ev2
        cases ev2
        exact ⟨_, dg, .inr ⟨hne, T, num, pl, r, m, h, sp, rfl, sm _ _ b, e1, e2, e3, e4, e5, e6, by omega, by omega⟩⟩
    refine ⟨Nat.zero_le _, fun lf hlf => ?_⟩
    have s1 := Same.upd (o := .lst []) hlf
    obtain ⟨v0, dg0, hv0⟩ := valOf s1 z c ez
    refine ⟨_, rfl, _, rfl, dS, v0, rfl, dg0, ?_⟩
    refine ⟨fun μ σ H2 => ∃ (z1 : Str) (c1 : Int) (v : V) (ts : List V) (suf : List (Nat × Nat)), σ = [some (.ref l), some (.ref dS), some (.str z), some (.ref lf), some v] ∧ look o z1 = some c1 ∧ c1 ≤ c ∧ ((z1 = z0 ∧ v = .non) ∨ (z1 ≠ z0 ∧ ∃ (T : Addr) (num pl : Nat) (r : Rule) (m h sp : Int), v = .ref T ∧ H2 T = some (.tup [.int (num : Int), .int (pl : Int)]) ∧ g[num]? = some r ∧ r.2.1[pl]? = some z1 ∧ isQ z1 = false ∧ sizeR s 0 r.2.1 = some m ∧ look o r.1 = some h ∧ look s z1 = some sp ∧ h + m - sp = c1 ∧ h < c1)) ∧
        H2 lf = some (.lst ts) ∧ Dens (del H2 lf) ts.reverse (suf.map stepD) ∧ (∀ st', PathG g s z0 z1 st' c1 → PathG g s z0 z (st' ++ suf) c) ∧ μ = c1.toNat ∧ ts.length + μ ≤ 1000 ∧ Same H H2 ∧ Plain H2,
      ⟨_, z, c, v0, [], [], rfl, ez, Int.le_refl _, hv0, upd_same, .nil, fun st' h => by rw [List.append_nil]; exact h, rfl, ?_, s1, hp.upd rfl⟩, ?_⟩
    · show 0 + c.toNat ≤ 1000
      omega
    rintro μ σ H2 ⟨z1, c1, v, ts, suf, rfl, ez1, hc1, hv, hf2, hdn, hpath, hμ, htl, s2, p2⟩
    have hnn := wy.nn _ _ ez1
    refine ⟨_, rfl, rfl, _, rfl, ?_⟩
    rcases hv with ⟨rfl, rfl⟩ | ⟨hne, T, num, pl, r, m, h, sp, rfl, hT, er, epl, hq, em, eh, esp, heq, hlt⟩
    · refine ⟨_, rfl, lf, ts, rfl, .inl hf2, fun lp hlp => ?_⟩
      have e0 : c1 = 0 := by rw [wy.has] at ez1; cases ez1; rfl
      have s3 := Same.upd (o := .lst ts.reverse) hlp
      refine q lp ts.reverse suf _ ?_ (hdn.same ((del_same _ _).trans s3)) (s2.trans s3) (p2.upd rfl) (s2.free hlp) upd_same
      have := hpath [] (by rw [e0]; exact .nil)
      rwa [List.nil_append] at this
    · refine ⟨_, fun _ _ h => h, ?_⟩
      have nTl : T ≠ lf := fun z => by rw [z, hf2] at hT; cases hT
      refine ⟨_, rfl, .inl ⟨rfl, _, SqL.of hf2⟩, _, rfl, lf, ts, _, rfl, rfl, hf2, Nat.lt_of_lt_of_le (show _ < 1001 by omega) (by rw [sizeLine_eq]; decide), ?_⟩
      have s3 : Same H (upd H2 lf (.lst (ts ++ [.ref T]))) := s2.put hlf
      have hT3 : upd H2 lf (.lst (ts ++ [.ref T])) T = some (.tup [.int (num : Int), .int (pl : Int)]) := by rw [upd_ne nTl]; exact hT
      have hkx : num < xs.length := by rw [hxl]; exact (List.getElem?_eq_some_iff.mp er).1
      have hix : xs[num]? = some xs[num] := List.getElem?_eq_getElem hkx
      obtain ⟨r', tt, p, er', ey', ht1, hpp⟩ := rule_at hds hix
      rw [er] at er'
      cases er'
      have ax : atI xs (num : Int) = some (.ref tt) := by rw [← ey']; exact atI_nat hix
      obtain ⟨v1, dg1, hv1⟩ := valOf s3 r.1 h eh
      refine ⟨_, rfl, _, rfl, _, rfl, T, _, 0, _, rfl, rfl, SqT.of hT3, rfl, l, _, _, _, rfl, rfl, SqL.of (s3 _ _ hl), ax, tt, _, 0, _, rfl, rfl, SqT.of (s3 _ _ ht1), rfl, dS, v1, rfl, dg1, ?_⟩
      have hhn := wy.nn _ _ eh
      refine ⟨h.toNat, by omega, r.1, h, v1, ts ++ [.ref T], (num, pl) :: suf, rfl, eh, by omega, hv1, upd_same, ?_, fun st' hp' => ?_, rfl, by rw [List.length_append]; show ts.length + 1 + _ ≤ 1000; omega, s3, p2.upd rfl⟩
      · rw [del_upd, List.reverse_append]
        refine .cons (.tup (show del H2 lf T = some _ by rw [del_ne nTl]; exact hT) (.cons (.int _) (.cons (.int _) .nil))) hdn
      · have h1 := PathG.snoc hp' er rfl epl hq em esp
        rw [heq] at h1
        have h2 := hpath _ h1
        rw [List.append_assoc] at h2
        exact h2
end
end FR


set_option linter.all false
set_option maxRecDepth 100000
set_option maxHeartbeats 4000000
namespace FR
open PySem L2

theorem dens_two {H : Hp} {ys : List V} {a b : Int} (h : Dens H ys [D.int a, D.int b]) : ys = [.int a, .int b] := by
  cases ys with
  | nil => unfold Dens at h; exact h.elim
  | cons y1 ys =>
    unfold Dens at h
    obtain ⟨h1, h2⟩ := h
    cases ys with
    | nil => unfold Dens at h2; exact h2.elim
    | cons y2 ys =>
      unfold Dens at h2
      obtain ⟨h2, h3⟩ := h2
      cases ys with
      | cons y3 ys => unfold Dens at h3; exact h3.elim
      | nil => rw [h1.to_int, h2.to_int]
def pendP (bs : List (List Str)) : List Str := bs.reverse.flatten
theorem pend_snoc (bs : List (List Str)) (b : List Str) : pendP (bs ++ [b]) = b ++ pendP bs := by
  unfold pendP
  rw [List.reverse_append]
  rfl
theorem cut_take (xs : List V) (n : Nat) (h : n ≤ xs.length) : cutV xs none (some (n : Int)) = xs.take n := by
  unfold cutV
  have e2 : HT.sIx xs.length xs.length (some (n : Int)) = min n xs.length := HT.sIx_nat _ _ n
  rw [e2, Nat.min_eq_left h]
  rfl
theorem cut_drop (xs : List V) (n : Nat) (h : n ≤ xs.length) : cutV xs (some (n : Int)) none = xs.drop n := by
  unfold cutV
  have e2 : HT.sIx xs.length 0 (some (n : Int)) = min n xs.length := HT.sIx_nat _ _ n
  rw [e2, Nat.min_eq_left h]
  show (xs.drop n).take (xs.length - n) = _
  rw [List.take_of_length_le (by rw [List.length_drop]; exact Nat.le_refl _)]
theorem sizeG_one {s s' : Sz} (h : ∀ z, look s z = look s' z) (ps : List Str) : ∀ a, sizeG s 0 ps a = sizeG s' 0 ps a := by
  induction ps with
  | nil => intro a; rfl
  | cons p ps ih =>
    intro a
    unfold sizeG sizeP
    rw [h p]
    split
    · rename_i hq
      rfl
    · rename_i m hq
      exact ih _
theorem sizeR_one {g : Gram} {s s' : Sz} (h : SzOk g 0 s) (f : Fix g 0 s) (h' : SzOk g 0 s') (f' : Fix g 0 s') {ps : List Str} {m : Int} (e : sizeR s 0 ps = some m) : sizeR s' 0 ps = some m := by
  have : sizeR s' 0 ps = sizeR s 0 ps := (sizeG_one (sz_one h f h' f') ps 1).symm
  rw [this]
  exact e
theorem reach_oneB {g : Gram} {s s' : Sz} (h : SzOk g 0 s) (f : Fix g 0 s) (h' : SzOk g 0 s') (f' : Fix g 0 s') {z0 z : Str} (hz : Reach g s z0 z) : Reach g s' z0 z := by
  induction hz with
  | start => exact .start
  | step hr hsd _ hp hq ih =>
    obtain ⟨m, em⟩ := hsd
    exact .step hr ⟨m, sizeR_one h f h' f' em⟩ ih hp hq
theorem need_oneB {g : Gram} {s s' : Sz} (h : SzOk g 0 s) (f : Fix g 0 s) (h' : SzOk g 0 s') (f' : Fix g 0 s') {k : Nat} (hz : Need g s k) : Need g s' k := by
  obtain ⟨r, r0, rest, e1, e2, ⟨m, em⟩, e4⟩ := hz
  exact ⟨r, r0, rest, e1, e2, ⟨m, sizeR_one h f h' f' em⟩, reach_oneB h f h' f' e4⟩
theorem wy_one {g : Gram} {s s' : Sz} (h : SzOk g 0 s) (f : Fix g 0 s) (h' : SzOk g 0 s') (f' : Fix g 0 s') {z0 : Str} {o : Sz} (w : WyOk g s z0 o) : WyOk g s' z0 o := ⟨w.nd, w.has, w.nn, w.bd, fun z v e => reach_oneB h f h' f' (w.rch z v e)⟩
theorem fix_one {g : Gram} {s s' : Sz} (h : SzOk g 0 s) (f : Fix g 0 s) (h' : SzOk g 0 s') (f' : Fix g 0 s') {o : Sz} (w : DownFix g s o) : DownFix g s' o := fun r hr p hp m hh sp e1 e2 e3 e4 => by
  refine w r hr p hp m hh sp (sizeR_one h' f' h f e1) e2 e3 ?_
  rw [sz_one h f h' f']
  exact e4
theorem df_one {g : Gram} {s s' : Sz} (h : SzOk g 0 s) (f : Fix g 0 s) (h' : SzOk g 0 s') (f' : Fix g 0 s') {z0 : Str} {o : Sz} (w : DF g s z0 o) : DF g s' z0 o := ⟨fix_one h f h' f' w.1, fun p v e => by
  rcases w.2 p v e with h1 | ⟨r, m, hh, sp, a, b, c, d, e1, e2, e3⟩
  · exact .inl h1
  · exact .inr ⟨r, m, hh, sp, a, sizeR_one h f h' f' b, c, d, e1, by rw [← sz_one h f h' f']; exact e2, e3⟩⟩
theorem valV_fs : ∀ {fs : List (Nat × Int)} {k : Nat}, k ∈ fs.map (·.1) → ∃ v, (k, v) ∈ fs ∧ valV (fsD fs) (Sum.inl (k : Int)) = some (.int v)
  | [], k, h => by cases h
  | p :: fs, k, h => by
    show ∃ v, (k, v) ∈ p :: fs ∧ valV ((Sum.inl (p.1 : Int), V.int p.2) :: fsD fs) (Sum.inl (k : Int)) = some (.int v)
    by_cases e : p.1 = k
    · exact ⟨p.2, by rw [← e]; exact List.mem_cons_self .., by rw [valV_pos (by rw [e])]⟩
    · rcases List.mem_cons.mp h with h | h
      · exact absurd h.symm e
      · obtain ⟨v, h1, h2⟩ := valV_fs h
        refine ⟨v, List.mem_cons_of_mem _ h1, ?_⟩
        rw [valV_neg (fun z => e (by have := Sum.inl.inj z; omega))]
        exact h2
section
variable {P : Program} {w : World} {K : PySem.W.Frag} {mg : Str → Option Value} {base : Heap} {C : Adr}
theorem sc_row_down : FnScope ["rules", "sizes", "number", "smallest", "steps", "row", "behind", "upper", "place", "parts"] ["rules", "sizes", "number"] (defScope s_row_down) := ⟨rfl, rfl, rfl, by decide +kernel, rfl, by decide +kernel, by decide +kernel⟩
theorem ok_row_down {f : Addr} {fd : FuncData} (F : Fun K "row_down" "row_down" s_row_down f fd) (T : Txt K mg C) (U_smallest_rules : Used P w K mg CX0 3 "smallest_rules" ["rules", "sizes"] (spSmall)) (U_steps_to : Used P w K mg CX0 2 "steps_to" ["rules", "steps", "head"] (spStepsTo)) (U_ways_down : Used P w K mg CX0 3 "ways_down" ["rules", "sizes"] (spWays)) (U_smallest_row : Used P w K mg CX0 2 "smallest_row" ["rules", "smallest", "parts"] (spSmallRow)) : FnOk P w K mg base CX0 4 f fd ["rules", "sizes", "number"] (spRowDown) := by
  obtain ⟨f_smallest_rules, fd_smallest_rules, G_smallest_rules, m_smallest_rules, k_smallest_rules, b_smallest_rules⟩ := U_smallest_rules.ok
  obtain ⟨f_steps_to, fd_steps_to, G_steps_to, m_steps_to, k_steps_to, b_steps_to⟩ := U_steps_to.ok
  obtain ⟨f_ways_down, fd_ways_down, G_ways_down, m_ways_down, k_ways_down, b_ways_down⟩ := U_ways_down.ok
  obtain ⟨f_smallest_row, fd_smallest_row, G_smallest_row, m_smallest_row, k_smallest_row, b_smallest_row⟩ := U_smallest_row.ok
  refine F.ok sc_row_down (fun vs H Q E h => ?_) (fun cdv A outer s H vs Q E hr h => ?_)
  · obtain ⟨l, d, k, xs, r0, rest, s, r, m, rfl, _⟩ := h
    rfl
  · obtain ⟨l, d, k, xs, r0, rest, s, r, m, rfl, hl, hds, hg, hd, hs, hfx, er, em, hre, hbd, hp, q⟩ := h
    have hu := hu_of hr
    refine ⟨_, (pss_cons (ps_set (i := 3) sc_row_down.nd rfl (Or.inl rfl) (pe_call (G_smallest_rules base) (hr.mono (by decide)) (by rfl) m_smallest_rules k_smallest_rules b_smallest_rules .nil pass0 (pa_cons (pv 0) (pa_cons (pv 1) pa_nil))))
      (pss_cons (ps_set (i := 4) sc_row_down.nd rfl (Or.inl rfl) (pe_ix (ix_tupK K rfl) (pe_call (G_ways_down base) (hr.mono (by decide)) (by rfl) m_ways_down k_ways_down b_ways_down .nil pass0 (pa_cons (pv 0) (pa_cons (pv 1) pa_nil))) pe_int (fun _ _ => rfl)))
      (pss_cons (ps_set (i := 5) sc_row_down.nd rfl (Or.inl rfl) (pe_lst pa_nil))
      (pss_cons (ps_set (i := 6) sc_row_down.nd rfl (Or.inl rfl) (pe_lst pa_nil))
      (pss_cons (ps_for PassesOwn.never rfl (pi_listK K rfl (pe_call (G_steps_to base) (hr.mono (by decide)) (by rfl) m_steps_to k_steps_to b_steps_to .nil pass0 (pa_cons (pv 0) (pa_cons (pv 4) (pa_cons (pe_ix (ix_tupK K rfl) (pe_ix (ix_listK K rfl) (pv 0) (pv 2) (fun _ _ => rfl)) pe_int (fun _ _ => rfl)) pa_nil))))) (pg_tupK K rfl (n := 2) rfl (pgs_cons (pg_name (i := 7) sc_row_down.nd rfl (Or.inl rfl)) (pgs_cons (pg_name (i := 8) sc_row_down.nd rfl (Or.inl rfl)) pgs_nil))) (pss_cons (ps_set (i := 9) sc_row_down.nd rfl (Or.inl rfl) (pe_ix (ix_tupK K rfl) (pe_ix (ix_listK K rfl) (pv 0) (pv 7) (fun _ _ => rfl)) pe_int (fun _ _ => rfl)))
      (pss_cons (ps_expr (pe_bmK K rfl PySem.F.plainAttrs_list PySem.F.slot_list_append PySem.F.type_list_append mt_append (pv 5) (pa_cons (pv 7) pa_nil)))
      (pss_cons (ps_expr (pe_bmK K rfl PySem.F.plainAttrs_list PySem.F.slot_list_extend PySem.F.type_list_extend mt_extend (pv 5) (pa_cons (pe_call (G_smallest_row base) (hr.mono (by decide)) (by rfl) m_smallest_row k_smallest_row b_smallest_row .nil pass0 (pa_cons (pv 0) (pa_cons (pv 3) (pa_cons (pe_slice sl_tupA (pv 9) po_none (po_some (pv 8))) pa_nil)))) pa_nil)))
      (pss_one (ps_expr (pe_bmK K rfl PySem.F.plainAttrs_list PySem.F.slot_list_append PySem.F.type_list_append mt_append (pv 6) (pa_cons (pe_slice sl_tupA (pv 9) (po_some (pe_op op_add (pv 8) pe_int)) po_none) pa_nil))))))))
      (pss_cons (ps_expr (pe_bmK K rfl PySem.F.plainAttrs_list PySem.F.slot_list_append PySem.F.type_list_append mt_append (pv 5) (pa_cons (pv 2) pa_nil)))
      (pss_cons (ps_expr (pe_bmK K rfl PySem.F.plainAttrs_list PySem.F.slot_list_extend PySem.F.type_list_extend mt_extend (pv 5) (pa_cons (pe_call (G_smallest_row base) (hr.mono (by decide)) (by rfl) m_smallest_row k_smallest_row b_smallest_row .nil pass0 (pa_cons (pv 0) (pa_cons (pv 3) (pa_cons (pe_ix (ix_tupK K rfl) (pe_ix (ix_listK K rfl) (pv 0) (pv 2) (fun _ _ => rfl)) pe_int (fun _ _ => rfl)) pa_nil)))) pa_nil)))
      (pss_cons (ps_for PassesOwn.never rfl (pi_revL K rfl rfl T.z_reversed (pa_cons (pv 6) pa_nil)) (pg_name (i := 9) sc_row_down.nd rfl (Or.inl rfl)) (pss_one (ps_expr (pe_bmK K rfl PySem.F.plainAttrs_list PySem.F.slot_list_extend PySem.F.type_list_extend mt_extend (pv 5) (pa_cons (pe_call (G_smallest_row base) (hr.mono (by decide)) (by rfl) m_smallest_row k_smallest_row b_smallest_row .nil pass0 (pa_cons (pv 0) (pa_cons (pv 3) (pa_cons (pv 9) pa_nil)))) pa_nil)))))
      (pss_one (ps_ret (pv 5))))))))))), ?_⟩
    have hg60 := gram_60 hg
    have hxl : xs.length = (r0 :: rest).length := by rw [hds.len, List.length_map]
    have hkx : k < xs.length := by rw [hxl]; exact (List.getElem?_eq_some_iff.mp er).1
    have hix : xs[k]? = some xs[k] := List.getElem?_eq_getElem hkx
    obtain ⟨r', tk, pk, er', ey', htk, hpk⟩ := rule_at hds hix
    rw [er] at er'
    cases er'
    have axk : atI xs (k : Int) = some (.ref tk) := by rw [← ey']; exact atI_nat hix
    refine ⟨_, rfl, _, rfl, l, d, xs, r0 :: rest, s, rfl, hl, hds, hg, hd, hs, hfx, hp, fun dM e H1 hsm s1 p1 hdM0 hdM => ?_⟩
    refine ⟨_, rfl, _, rfl, l, d, xs, r0, rest, s, rfl, s1 _ _ hl, hds.same s1, hg, s1 _ _ hd, hs, p1, fun t dO dS o kvs2 H2 wy fx st s2 p2 ht hO hS => ⟨t, _, 1, _, rfl, rfl, SqT.of ht, rfl, ?_⟩⟩
    obtain ⟨h, eh⟩ := down_reach hs wy fx hre
    have hle := hbd o h wy ⟨fx, st.att⟩ eh
    have hh0 := wy.nn _ _ eh
    have hm := sizeR_sum hs.pos em
    have hmn := szSum_nn hs.pos r.2.1
    obtain ⟨g, eg⟩ : ∃ g, r0 :: rest = g := ⟨_, rfl⟩
    rw [eg] at hds hg hs hfx er hre hbd hxl wy fx st q hsm hg60
    have partsOk : ∀ {num : Nat} {r : Rule}, g[num]? = some r → r.2.1.length ≤ 6 := fun {num r} er => by
      unfold okGram at hg
      rw [Bool.and_eq_true] at hg
      have hok := List.all_eq_true.mp hg.2 r (List.mem_of_getElem? er)
      unfold okRule at hok
      simp only [Bool.and_eq_true, decide_eq_true_eq] at hok
      exact hok.2.1.1
    refine ⟨Nat.zero_le _, fun lr hlr => ⟨Nat.zero_le _, fun lb hlb => ?_⟩⟩
    have s3 := Same.upd (o := .lst []) hlr
    have s4 := Same.upd (o := .lst []) hlb
    have nbr : lb ≠ lr := fun z => by rw [z, upd_same] at hlb; cases hlb
    have s24 := s3.trans s4
    have s04 := (s1.trans s2).trans s24
    have hlr0 : H lr = none := (s1.trans s2).free hlr
    have hlb0 : H lb = none := (s1.trans s2).free (s3.free hlb)
    have r4 : upd (upd H2 lr (.lst [])) lb (.lst []) lr = some (.lst (([] : List Nat).map nV)) := s4 _ _ upd_same
    have b4 : upd (upd H2 lr (.lst [])) lb (.lst []) lb = some (.lst []) := upd_same
    have p4 : Plain (upd (upd H2 lr (.lst [])) lb (.lst [])) := (p2.upd rfl).upd rfl
    have hlrM : H1 lr = none := s2.free hlr
    have hlbM : H1 lb = none := s2.free (s3.free hlb)
    have s14 := s2.trans s24
    revert s24 s04 r4 b4 p4 s14
    generalize upd (upd H2 lr (.lst [])) lb (.lst []) = H4
    intro s24 s04 r4 b4 p4 s14
    refine ⟨_, rfl, _, rfl, _, rfl, _, rfl, l, _, _, _, rfl, rfl, SqL.of (s04 _ _ hl), axk, tk, _, 0, _, rfl, rfl, SqT.of (s04 _ _ htk), rfl, l, dS, xs, g, s, o, r0.1, r.1, h, kvs2, rfl, s04 _ _ hl, hds.same s04, hg, s24 _ _ hS, hs, wy, fx, st.mono s24, eh, by omega, p4, fun lp ts stp H5 hpath hdts s5 p5 hlp0 hlp => ?_⟩
    obtain ⟨f, f0, fn, fb, fs⟩ := hpath.trace hs.pos
    have htl : ts.length = stp.length := by rw [hdts.len, List.length_map]
    have nlr : lp ≠ lr := fun z => by rw [z, r4] at hlp0; cases hlp0
    have nlb : lp ≠ lb := fun z => by rw [z, b4] at hlp0; cases hlp0
    have stepAt : ∀ {i : Nat} {y : V}, ts[i]? = some y → ∃ num pl T, stp[i]? = some (num, pl) ∧ y = .ref T ∧ H5 T = some (.tup [.int ((num : Nat) : Int), .int ((pl : Nat) : Int)]) := fun {i y} hi => by
      obtain ⟨d', hd', dn⟩ := hdts.get hi
      rw [List.getElem?_map] at hd'
      cases e1 : stp[i]? with
      | none => rw [e1] at hd'; cases hd'
      | some np =>
        rw [e1] at hd'
        cases hd'
        obtain ⟨T, ys, rfl, hT, dys⟩ := dn.to_tup
        cases dens_two dys
        exact ⟨np.1, np.2, T, rfl, rfl, hT⟩
    have hlen0 : stp.length ≤ 1000 := by
      have key : ∀ i, i ≤ stp.length → (i : Int) ≤ (f i).2 := fun i => by
        induction i with
        | zero => intro _; rw [f0]; exact Int.le_refl _
        | succ i ih =>
          intro hi
          have h1 := ih (by omega)
          have e1 : stp[i]? = some stp[i] := List.getElem?_eq_getElem (by omega)
          obtain ⟨r1, m1, sp1, _, _, h3, h4, h5, h6, h7⟩ := fs i stp[i].1 stp[i].2 e1
          obtain ⟨v, ev, hv⟩ := (sizeG_part hs.pos h5).2 _ (List.mem_of_getElem? h3) h4
          rw [h6] at ev
          cases ev
          omega
      have := key stp.length (Nat.le_refl _)
      rw [fn] at this
      have this : (stp.length : Int) ≤ h := this
      omega
    refine ⟨lp, rfl, ⟨_, SqL.of hlp⟩, ?_⟩
    refine for_list (K := K) (a := lp) (xs := ts) (fun i σ H6 => ∃ (ks : List Nat) (bs : List (List Str)) (ts2 : List V) (v7 v8 v9 : Option V), σ = [some (.ref l), some (.ref d), some (.int (k : Int)), some (.ref dM), some (.ref dS), some (.ref lr), some (.ref lb), v7, v8, v9] ∧ H6 lr = some (.lst (ks.map nV)) ∧ H6 lb = some (.lst ts2) ∧ TupsOk H6 ts2 bs ∧ bs.length = i ∧
        (∀ b ∈ bs, b.length ≤ 6 ∧ ∀ x ∈ b, isQ x = false → ∃ v, look s x = some v) ∧ (∀ rest', RowsG g ((f i).1 :: unQ (pendP bs)) rest' → RowsG g [r0.1] (ks ++ rest')) ∧ (ks.length : Int) + szSum s (pendP bs) = (f i).2 ∧ KeepT H5 H6 ∧ Same H1 H6 ∧ H6 lp = some (.lst ts) ∧ Plain H6)
      ⟨[], [], [], none, none, none, rfl, s5 _ _ r4, s5 _ _ b4, ⟨rfl, fun j b hb => by cases hb⟩, rfl, (fun b hb => nomatch hb), fun rest' hr' => by rw [f0] at hr'; exact hr', by rw [f0]; rfl, fun T xs e => e, s14.trans s5, hlp, p5⟩ ?_ ?_ ?_
    · rintro i σ H6 _ ⟨_, _, _, _, _, _, rfl, _, _, _, _, _, _, _, _, _, hlp6, _⟩
      exact SqL.of hlp6
    · rintro i y σ H6 hi ⟨ks, bs, ts2, v7, v8, v9, rfl, r6, b6, tu6, bl6, bok, hrow, hsum, kt6, s16, hlp6, p6⟩
      obtain ⟨num, pl, T, estp, rfl, hT⟩ := stepAt hi
      obtain ⟨r1, m1, sp1, er1, hz1, epl, hq1, em1, esp1, hf1⟩ := fs i num pl estp
      have hilt : i < stp.length := (List.getElem?_eq_some_iff.mp estp).1
      have hpl : pl < r1.2.1.length := (List.getElem?_eq_some_iff.mp epl).1
      have h61 := partsOk er1
      have s06 := s1.trans s16
      have hnx : num < xs.length := by rw [hxl]; exact (List.getElem?_eq_some_iff.mp er1).1
      have hixn : xs[num]? = some xs[num] := List.getElem?_eq_getElem hnx
      obtain ⟨r1', tt, pp, er1', ey1, htt, hpp⟩ := rule_at hds hixn
      rw [er1] at er1'
      cases er1'
      have axn : atI xs (num : Int) = some (.ref tt) := by rw [← ey1]; exact atI_nat hixn
      have esplit : r1.2.1 = r1.2.1.take pl ++ (f (i + 1)).1 :: r1.2.1.drop (pl + 1) := by
        have hx : r1.2.1[pl] = (f (i + 1)).1 := Option.some.inj ((List.getElem?_eq_getElem hpl).symm.trans epl)
        rw [← hx, ← List.drop_eq_getElem_cons hpl, List.take_append_drop]
      have hm1 := sizeR_sum hs.pos em1
      have e3 : szSum s r1.2.1 = szSum s (r1.2.1.take pl) + (sp1 + szSum s (r1.2.1.drop (pl + 1))) := by
        have h1 : r1.2.1.take pl ++ (f (i + 1)).1 :: r1.2.1.drop (pl + 1) = r1.2.1.take pl ++ ([(f (i + 1)).1] ++ r1.2.1.drop (pl + 1)) := rfl
        rw [← szSum_one hq1 esp1, ← szSum_app, ← szSum_app, ← h1, ← esplit]
      have na := szSum_nn hs.pos (r1.2.1.take pl)
      have nb := szSum_nn hs.pos (r1.2.1.drop (pl + 1))
      have npd := szSum_nn hs.pos (pendP bs)
      have fbi := (fb (i + 1) (by omega)).2
      have fbi0 := (fb i (by omega)).1
      have sized1 : ∀ x ∈ r1.2.1, isQ x = false → ∃ v, look s x = some v := fun x hx hq => by
        obtain ⟨v, ev, _⟩ := (sizeG_part hs.pos em1).2 x hx hq
        exact ⟨v, ev⟩
      refine ⟨T, _, rfl, SqT.of (kt6 _ _ hT), rfl, _, _, rfl, _, _, rfl, rfl, ?_⟩
      refine ⟨_, rfl, _, rfl, l, _, _, _, rfl, rfl, SqL.of (s06 _ _ hl), axn, tt, _, 1, _, rfl, rfl, SqT.of (s06 _ _ htt), rfl, ?_⟩
      refine ⟨_, rfl, .inl ⟨rfl, _, SqL.of r6⟩, _, rfl, lr, _, _, rfl, rfl, r6, by rw [List.length_map, sizeLine_eq]; omega, ?_⟩
      have er7 : ks.map nV ++ [V.int (num : Int)] = (ks ++ [num]).map nV := by rw [List.map_append]; rfl
      rw [er7]
      have s17 : Same H1 (upd H6 lr (.lst ((ks ++ [num]).map nV))) := s16.put hlrM
      have kt7 := kt6.trans (KeepT.lst (o := .lst ((ks ++ [num]).map nV)) r6)
      have tu7 := tu6.mono (KeepT.lst (o := .lst ((ks ++ [num]).map nV)) r6)
      have r7 : upd H6 lr (.lst ((ks ++ [num]).map nV)) lr = some (.lst ((ks ++ [num]).map nV)) := upd_same
      have b7 : upd H6 lr (.lst ((ks ++ [num]).map nV)) lb = some (.lst ts2) := by rw [upd_ne nbr]; exact b6
      have lp7 : upd H6 lr (.lst ((ks ++ [num]).map nV)) lp = some (.lst ts) := by rw [upd_ne nlr]; exact hlp6
      have p7 : Plain (upd H6 lr (.lst ((ks ++ [num]).map nV))) := p6.upd rfl
      revert s17 kt7 tu7 r7 b7 lp7 p7
      generalize upd H6 lr (.lst ((ks ++ [num]).map nV)) = H7
      intro s17 kt7 tu7 r7 b7 lp7 p7
      have s07 := s1.trans s17
      refine ⟨_, rfl, .inl ⟨rfl, _, SqL.of r7⟩, _, rfl, _, rfl, _, rfl, _, rfl, _, rfl, pp, _, rfl, s07 _ _ hpp, fun pa H8 s8 q8 _ hpa => ?_⟩
      rw [cut_take _ _ (by rw [List.length_map]; omega), ← List.map_take] at hpa
      refine ⟨l, dM, pa, xs, g, s, e, r1.2.1.take pl, rfl, (s07.trans s8) _ _ hl, hds.same (s07.trans s8), hg, (s17.trans s8) _ _ hdM, hs, hsm, hpa, by rw [List.length_take]; omega, fun x hx => sized1 x (List.mem_of_mem_take hx), by omega, q8 p7, fun lx kx H9 hrx hlx s9 p9 hlx0 hlx9 => ?_⟩
      have s79 := s8.trans s9
      refine ⟨lr, lx, _, _, rfl, rfl, s79 _ _ r7, hlx9, by rw [List.length_map, List.length_map, List.length_append, sizeLine_eq]; show ks.length + 1 + kx.length ≤ _; omega, ?_⟩
      have er10 : (ks ++ [num]).map nV ++ kx.map nV = (ks ++ [num] ++ kx).map nV := by rw [List.map_append (l₂ := kx)]
      rw [er10]
      have r9 := s79 _ _ r7
      have s110 : Same H1 (upd H9 lr (.lst ((ks ++ [num] ++ kx).map nV))) := (s17.trans s79).put hlrM
      have kt10 := (kt7.trans (KeepT.of s79)).trans (KeepT.lst (o := .lst ((ks ++ [num] ++ kx).map nV)) r9)
      have tu10 := (tu7.mono (KeepT.of s79)).mono (KeepT.lst (o := .lst ((ks ++ [num] ++ kx).map nV)) r9)
      have r10 : upd H9 lr (.lst ((ks ++ [num] ++ kx).map nV)) lr = some (.lst ((ks ++ [num] ++ kx).map nV)) := upd_same
      have b10 : upd H9 lr (.lst ((ks ++ [num] ++ kx).map nV)) lb = some (.lst ts2) := by rw [upd_ne nbr]; exact s79 _ _ b7
      have lp10 : upd H9 lr (.lst ((ks ++ [num] ++ kx).map nV)) lp = some (.lst ts) := by rw [upd_ne nlr]; exact s79 _ _ lp7
      have p10 : Plain (upd H9 lr (.lst ((ks ++ [num] ++ kx).map nV))) := p9.upd rfl
      revert s110 kt10 tu10 r10 b10 lp10 p10
      generalize upd H9 lr (.lst ((ks ++ [num] ++ kx).map nV)) = H10
      intro s110 kt10 tu10 r10 b10 lp10 p10
      have s010 := s1.trans s110
      refine ⟨_, rfl, .inl ⟨rfl, _, SqL.of b10⟩, _, rfl, _, rfl, _, _, rfl, rfl, _, rfl, pp, _, rfl, s010 _ _ hpp, fun pb H11 s11 q11 _ hpb => ?_⟩
      have e11 : ((pl : Int) + 1) = ((pl + 1 : Nat) : Int) := by omega
      rw [e11, cut_drop _ _ (by rw [List.length_map]; omega), ← List.map_drop] at hpb
      have b11 := s11 _ _ b10
      refine ⟨lb, _, _, rfl, rfl, b11, by rw [tu10.1, bl6, sizeLine_eq]; omega, ?_⟩
      refine ⟨ks ++ [num] ++ kx, bs ++ [r1.2.1.drop (pl + 1)], _, _, _, _, rfl, by rw [upd_ne nbr.symm]; exact s11 _ _ r10, upd_same, ((tu10.mono (KeepT.of s11)).snoc hpb).mono (KeepT.lst b11), by rw [List.length_append, bl6]; rfl, fun b hb => ?_, fun rest' hr' => ?_, ?_, (kt10.trans (KeepT.of s11)).trans (KeepT.lst b11), (s110.trans s11).put hlbM, by rw [upd_ne nlb]; exact s11 _ _ lp10, (q11 p10).upd rfl⟩
      · rcases List.mem_append.mp hb with hb | hb
        · exact bok b hb
        · rw [List.mem_singleton.mp hb]
          exact ⟨by rw [List.length_drop]; omega, fun x hx => sized1 x (List.mem_of_mem_drop hx)⟩
      · rw [pend_snoc, unQ_app] at hr'
        have e1 : ks ++ [num] ++ kx ++ rest' = ks ++ (num :: (kx ++ rest')) := by simp
        rw [e1]
        refine hrow _ ?_
        rw [← hz1]
        refine RowsG.cons er1 ?_
        have e2 : unQ r1.2.1 = unQ (r1.2.1.take pl) ++ (f (i + 1)).1 :: unQ (r1.2.1.drop (pl + 1)) := by
          conv => lhs; rw [esplit]
          rw [unQ_app]
          congr 1
          unfold unQ
          rw [List.filter_cons, hq1]
          rfl
        rw [e2, List.append_assoc]
        exact hrx.app hr'
      · rw [pend_snoc, szSum_app, List.length_append, List.length_append, hf1]
        show ((ks.length + 1 + kx.length : Nat) : Int) + _ = _
        omega
    · rintro σ H6 ⟨ks, bs, ts2, v7, v8, v9, rfl, r6, b6, tu6, bl6, bok, hrow, hsum, kt6, s16, hlp6, p6⟩
      rw [htl] at hrow hsum bl6
      rw [fn] at hrow hsum
      have hsum : (ks.length : Int) + szSum s (pendP bs) = h := hsum
      have npd := szSum_nn hs.pos (pendP bs)
      have s06 := s1.trans s16
      refine ⟨_, rfl, .inl ⟨rfl, _, SqL.of r6⟩, _, rfl, lr, _, _, rfl, rfl, r6, by rw [List.length_map, sizeLine_eq]; omega, ?_⟩
      have er7 : ks.map nV ++ [V.int (k : Int)] = (ks ++ [k]).map nV := by rw [List.map_append]; rfl
      rw [er7]
      have s17 : Same H1 (upd H6 lr (.lst ((ks ++ [k]).map nV))) := s16.put hlrM
      have tu7 := tu6.mono (KeepT.lst (o := .lst ((ks ++ [k]).map nV)) r6)
      have r7 : upd H6 lr (.lst ((ks ++ [k]).map nV)) lr = some (.lst ((ks ++ [k]).map nV)) := upd_same
      have b7 : upd H6 lr (.lst ((ks ++ [k]).map nV)) lb = some (.lst ts2) := by rw [upd_ne nbr]; exact b6
      have p7 : Plain (upd H6 lr (.lst ((ks ++ [k]).map nV))) := p6.upd rfl
      revert s17 tu7 r7 b7 p7
      generalize upd H6 lr (.lst ((ks ++ [k]).map nV)) = H7
      intro s17 tu7 r7 b7 p7
      have s07 := s1.trans s17
      have sizedk : ∀ x ∈ r.2.1, isQ x = false → ∃ v, look s x = some v := fun x hx hq => by
        obtain ⟨v, ev, _⟩ := (sizeG_part hs.pos em).2 x hx hq
        exact ⟨v, ev⟩
      refine ⟨_, rfl, .inl ⟨rfl, _, SqL.of r7⟩, _, rfl, _, rfl, _, rfl, _, rfl, l, _, _, _, rfl, rfl, SqL.of (s07 _ _ hl), axk, tk, _, 1, _, rfl, rfl, SqT.of (s07 _ _ htk), rfl, l, dM, pk, xs, g, s, e, r.2.1, rfl, s07 _ _ hl, hds.same s07, hg, s17 _ _ hdM, hs, hsm, s07 _ _ hpk, partsOk er, sizedk, by omega, p7, fun lx kx H8 hrx hlx s8 p8 hlx0 hlx8 => ?_⟩
      have r8 := s8 _ _ r7
      refine ⟨lr, lx, _, _, rfl, rfl, r8, hlx8, by rw [List.length_map, List.length_map, List.length_append, sizeLine_eq]; show ks.length + 1 + kx.length ≤ _; omega, ?_⟩
      have er9 : (ks ++ [k]).map nV ++ kx.map nV = (ks ++ [k] ++ kx).map nV := by rw [List.map_append (l₂ := kx)]
      rw [er9]
      have s19 : Same H1 (upd H8 lr (.lst ((ks ++ [k] ++ kx).map nV))) := (s17.trans s8).put hlrM
      have tu9 := (tu7.mono (KeepT.of s8)).mono (KeepT.lst (o := .lst ((ks ++ [k] ++ kx).map nV)) r8)
      have r9 : upd H8 lr (.lst ((ks ++ [k] ++ kx).map nV)) lr = some (.lst ((ks ++ [k] ++ kx).map nV)) := upd_same
      have b9 : upd H8 lr (.lst ((ks ++ [k] ++ kx).map nV)) lb = some (.lst ts2) := by rw [upd_ne nbr]; exact s8 _ _ b7
      have p9 : Plain (upd H8 lr (.lst ((ks ++ [k] ++ kx).map nV))) := p8.upd rfl
      revert s19 tu9 r9 b9 p9
      generalize upd H8 lr (.lst ((ks ++ [k] ++ kx).map nV)) = H9
      intro s19 tu9 r9 b9 p9
      refine ⟨_, rfl, lb, _, rfl, .inl b9, ?_⟩
      refine for_revL (K := K) (a := lb) (xs := ts2) (fun j σ H10 => ∃ (kj : List Nat) (v9 : Option V), σ = [some (.ref l), some (.ref d), some (.int (k : Int)), some (.ref dM), some (.ref dS), some (.ref lr), some (.ref lb), v7, v8, v9] ∧ H10 lr = some (.lst (kj.map nV)) ∧ H10 lb = some (.lst ts2) ∧ TupsOk H10 ts2 bs ∧ k ∈ kj ∧
          (∀ rest', RowsG g (unQ (bs.reverse.drop j).flatten) rest' → RowsG g [r0.1] (kj ++ rest')) ∧ (kj.length : Int) + szSum s (bs.reverse.drop j).flatten = h + m ∧ Same H1 H10 ∧ Plain H10)
        ⟨ks ++ [k] ++ kx, v9, rfl, r9, b9, tu9, by simp, fun rest' hr' => ?_, ?_, s19, p9⟩ ?_ ?_ ?_
      · rw [List.drop_zero] at hr'
        have e1 : ks ++ [k] ++ kx ++ rest' = ks ++ (k :: (kx ++ rest')) := by simp
        rw [e1]
        exact hrow _ (RowsG.cons er (hrx.app hr'))
      · rw [List.drop_zero, List.length_append, List.length_append]
        show ((ks.length + 1 + kx.length : Nat) : Int) + szSum s (pendP bs) = _
        omega
      · rintro j σ H10 _ ⟨_, _, rfl, _, b10, _⟩
        exact SqL.of b10
      · rintro j y σ H10 hj ⟨kj, v9, rfl, r10, b10, tu10, hkm, hrow10, hsum10, s110, p10⟩
        have hjl : j < ts2.length := by
          have := (List.getElem?_eq_some_iff.mp hj).1
          rwa [List.length_reverse] at this
        rw [List.getElem?_reverse hjl] at hj
        have hbl : j < bs.length := by rw [← tu10.1]; exact hjl
        have eb : bs.reverse[j]? = some bs[bs.length - 1 - j] := by
          rw [List.getElem?_reverse hbl]
          exact List.getElem?_eq_getElem (by omega)
        obtain ⟨b, hb⟩ : ∃ b, bs[bs.length - 1 - j] = b := ⟨_, rfl⟩
        rw [hb] at eb
        obtain ⟨T, eT, hT⟩ := tu10.2 (bs.length - 1 - j) b (by rw [← hb]; exact List.getElem?_eq_getElem (by omega))
        rw [tu10.1, eT] at hj
        cases hj
        have hdrop : bs.reverse.drop j = b :: bs.reverse.drop (j + 1) := by
          obtain ⟨hlt, hx⟩ := List.getElem?_eq_some_iff.mp eb
          rw [List.drop_eq_getElem_cons hlt, hx]
        have hbm : b ∈ bs := by rw [← hb]; exact List.getElem_mem _
        obtain ⟨hb6, hbs⟩ := bok b hbm
        rw [hdrop, List.flatten_cons] at hrow10 hsum10
        rw [szSum_app] at hsum10
        have n1 := szSum_nn hs.pos b
        have n2 := szSum_nn hs.pos (bs.reverse.drop (j + 1)).flatten
        have s010 := s1.trans s110
        refine ⟨_, rfl, .inl ⟨rfl, _, SqL.of r10⟩, _, rfl, _, rfl, _, rfl, l, dM, T, xs, g, s, e, b, rfl, s010 _ _ hl, hds.same s010, hg, s110 _ _ hdM, hs, hsm, hT, hb6, hbs, by omega, p10, fun ly ky H11 hry hly s11 p11 hly0 hly11 => ?_⟩
        have r11 := s11 _ _ r10
        refine ⟨lr, ly, _, _, rfl, rfl, r11, hly11, by rw [List.length_map, List.length_map, sizeLine_eq]; omega, ?_⟩
        have er12 : kj.map nV ++ ky.map nV = (kj ++ ky).map nV := by rw [List.map_append]
        rw [er12]
        refine ⟨kj ++ ky, _, rfl, upd_same, by rw [upd_ne nbr]; exact s11 _ _ b10, (tu10.mono (KeepT.of s11)).mono (KeepT.lst r11), List.mem_append_left _ hkm, fun rest' hr' => ?_, ?_, (s110.trans s11).put hlrM, p11.upd rfl⟩
        · rw [List.append_assoc]
          refine hrow10 _ ?_
          rw [unQ_app]
          exact hry.app hr'
        · rw [List.length_append]
          omega
      · rintro σ H10 ⟨kj, v9, rfl, r10, b10, tu10, hkm, hrow10, hsum10, s110, p10⟩
        have hall : bs.reverse.drop ts2.length = [] := by
          rw [tu10.1]
          exact List.drop_eq_nil_of_le (by rw [List.length_reverse]; exact Nat.le_refl _)
        rw [hall] at hrow10 hsum10
        refine ⟨_, rfl, q lr kj o h H10 wy ⟨fx, st.att⟩ eh ?_ hkm ?_ (s1.trans s110) p10 hlr0 r10⟩
        · have := hrow10 [] .nil
          rwa [List.append_nil] at this
        · have e0 : szSum s ([] : List (List Str)).flatten = 0 := rfl
          rw [e0] at hsum10
          omega
theorem sc_row_with : FnScope ["grammar", "number", "rules", "sizes", "found"] ["grammar", "number"] (defScope s_row_with) := ⟨rfl, rfl, rfl, by decide +kernel, rfl, by decide +kernel, by decide +kernel⟩
theorem ok_row_with {f : Addr} {fd : FuncData} (F : Fun K "row_with" "row_with" s_row_with f fd) (T : Txt K mg C) (U_checked : Used P w K mg (CXo P w) 7 "checked" ["thing"] (spChecked C.NoGrammar)) (U_least_sizes : Used P w K mg CX0 3 "least_sizes" ["rules", "sign_size"] (spLeastS)) (U_sizes_with : Used P w K mg CX0 4 "sizes_with" ["rules", "sizes"] (spSizesW)) (U_row_down : Used P w K mg CX0 4 "row_down" ["rules", "sizes", "number"] (spRowDown)) (U_is_whole : Used P w K mg CX0 1 "is_whole" ["thing"] (spIs isWholeD)) : FnOk P w K mg base (CXo P w) 8 f fd ["grammar", "number"] (spRowWith) := by
  obtain ⟨f_checked, fd_checked, G_checked, m_checked, k_checked, b_checked⟩ := U_checked.ok
  obtain ⟨f_least_sizes, fd_least_sizes, G_least_sizes, m_least_sizes, k_least_sizes, b_least_sizes⟩ := U_least_sizes.ok
  obtain ⟨f_sizes_with, fd_sizes_with, G_sizes_with, m_sizes_with, k_sizes_with, b_sizes_with⟩ := U_sizes_with.ok
  obtain ⟨f_row_down, fd_row_down, G_row_down, m_row_down, k_row_down, b_row_down⟩ := U_row_down.ok
  obtain ⟨f_is_whole, fd_is_whole, G_is_whole, m_is_whole, k_is_whole, b_is_whole⟩ := U_is_whole.ok
  obtain ⟨t_MOST_NUMBERS, g_MOST_NUMBERS⟩ := T.g_MOST_NUMBERS
  refine F.okX sc_row_with (fun vs H Q E h => ?_) (fun cdv A outer s H vs Q E hr h => ?_)
  · obtain ⟨x, k, g, s, rfl, _⟩ := h
    rfl
  · obtain ⟨x, k, g, s, rfl, den, hg, hs, hfx, hnd, hbd, hp, q⟩ := h
    have hu := hu_of hr
    refine ⟨_, (pss_cons (ps_set (i := 2) sc_row_with.nd rfl (Or.inl rfl) (pe_call (G_checked base) (hr.mono (by decide)) (by rfl) m_checked k_checked b_checked .nil sink_def.on (pa_cons (pv 0) pa_nil)))
      (pss_cons (ps_set (i := 3) sc_row_with.nd rfl (Or.inl rfl) (pe_call (G_least_sizes base) (hr.mono (by decide)) (by rfl) m_least_sizes k_least_sizes b_least_sizes .nil pass0 (pa_cons (pv 2) (pa_cons pe_int pa_nil))))
      (pss_cons (ps_set (i := 4) sc_row_with.nd rfl (Or.inl rfl) (pe_call (G_sizes_with base) (hr.mono (by decide)) (by rfl) m_sizes_with k_sizes_with b_sizes_with .nil pass0 (pa_cons (pv 2) (pa_cons (pv 3) pa_nil))))
      (pss_cons (ps_if (PW.pt (pw_or (pt_not (pt_val (pe_call (G_is_whole base) (hr.mono (by decide)) (by rfl) m_is_whole k_is_whole b_is_whole .nil pass0 (pa_cons (pv 1) pa_nil)))) (pw_or1 (pt_cmp (pc_dnotin hu (pv 1) (pv 4)))))) (pss_one (ps_raise sink_def T.x_NoRow rfl (by rfl) T.n_NoRow (pa_cons pe_str pa_nil))) pss_nil)
      (pss_cons (ps_if (pt_cmpR op_gt (pe_dget hu (pv 4) (pv 1) (fun _ _ => rfl)) (pe_glob (v := .int 1000) (by rfl) g_MOST_NUMBERS ⟨_, rfl⟩) (nomark _)) (pss_one (ps_raise sink_def T.x_TooGreat rfl (by rfl) T.n_TooGreat (pa_cons pe_str pa_nil))) pss_nil)
      (pss_one (ps_ret (pe_call (G_row_down base) (hr.mono (by decide)) (by rfl) m_row_down k_row_down b_row_down .nil pass0 (pa_cons (pv 2) (pa_cons (pv 3) (pa_cons (pv 1) pa_nil))))))))))), ?_⟩
    obtain ⟨r, r0, rest, eg, er, ⟨m, em⟩, hre⟩ := id hnd
    refine ⟨_, rfl, x, gramD g, rfl, den, short_gram hg, hp, fun e l xs ds ed hds hl => ?_, fun e => by rw [isGramD_gramD, hg] at e; cases e⟩
    cases ed
    have s1 := Same.upd (o := .lst xs) hl
    refine ⟨_, rfl, l, xs, g, 0, rfl, upd_same, hds.same s1, hg, Int.le_refl _, hp.upd rfl, fun d s' H' hok hfix hd e => ?_⟩
    subst e
    have s2 := Same.upd (o := .dK (szD s')) hd
    have s12 := s1.trans s2
    have hnd' := need_oneB hs hfx hok hfix hnd
    have em' := sizeR_one hs hfx hok hfix em
    have hre' := reach_oneB hs hfx hok hfix hre
    refine ⟨_, rfl, _, rfl, l, d, xs, g, s', rfl, s2 _ _ upd_same, hds.same s12, hg, upd_same, hok, (hp.upd rfl).upd rfl, fun dF fs H2 srt mem facts s3 p3 hdF0 hdF => ?_⟩
    obtain ⟨v, hmem, hval⟩ := valV_fs ((mem k).mpr hnd')
    obtain ⟨o, wy, fx, fct⟩ := facts r0 rest eg
    obtain ⟨r', m', h, er', em2, eh, hv⟩ := fct _ hmem
    rw [er] at er'
    cases er'
    rw [em'] at em2
    cases em2
    have hle := hbd r0 rest r m o h eg er em (wy_one hok hfix hs hfx wy) (df_one hok hfix hs hfx fx) eh
    have s13 := s12.trans s3
    have dg : DGet H2 dF (.int (k : Int)) (some (.int v)) := by
      have := DGet.k (k := Sum.inl (k : Int)) hdF
      rw [hval] at this
      exact this
    refine ⟨_, rfl, .int (k : Int), .int (k : Int), rfl, .int _, by unfold D.short; rfl, p3, _, rfl, iteF ?_⟩
    refine ⟨_, rfl, _, rfl, dF, some (.int v), rfl, dg, _, rfl, ?_⟩
    refine ⟨_, rfl, _, rfl, dF, .int v, rfl, dg, _, _, rfl, rfl, _, rfl, ?_⟩
    rw [decide_eq_false (by show ¬ (1000 : Int) < v; have hv : v = h + m := hv; omega)]
    refine iteF ?_
    subst eg
    refine ⟨_, rfl, _, rfl, _, rfl, l, d, k, xs, r0, rest, s', r, m, rfl, (s2.trans s3) _ _ upd_same, hds.same s13, hg, s3 _ _ upd_same, hok, hfix, er, em', hre', fun o' h' w' f' e' => hbd r0 rest r m o' h' rfl er em (wy_one hok hfix hs hfx w') (df_one hok hfix hs hfx f') e', p3, fun lr ks o' h' H3 w' f' e' hrow hkm hlen s4 p4 hlr0 hlr => ?_⟩
    exact q lr ks r0 rest r m o' h' H3 rfl er em (wy_one hok hfix hs hfx w') (df_one hok hfix hs hfx f') e' hrow hkm hlen (s13.trans s4) p4 (s13.free hlr0) hlr
end
end FR


set_option linter.all false
set_option maxRecDepth 100000
set_option maxHeartbeats 4000000
namespace FR
open PySem L2
abbrev s__law_cell_at : Stmt := top 38
abbrev s__law_mixed : Stmt := top 39
abbrev s__law_signs : Stmt := top 40
abbrev s__law_names : Stmt := top 41
abbrev s__law_worth : Stmt := top 42
abbrev s__law_parts : Stmt := top 43
abbrev s__law_bare : Stmt := top 44
abbrev s__law_whole : Stmt := top 46
abbrev s_law : Stmt := top 52
theorem nd_LG__law_k__law_big__law_odd : (["_law_k", "_law_big", "_law_odd"] : List Str).Nodup := by decide +kernel
theorem nd_LG__law_k__law_at__law_base__law_big__law_odd : (["_law_k", "_law_at", "_law_base", "_law_big", "_law_odd"] : List Str).Nodup := by decide +kernel
def spMixed (K : PySem.W.Frag) : Sp := fun vs H Q _ => ∃ (a : Addr) (ns : List Int) (k : Int), vs = [.ref a, .int k] ∧ SqL K H a (ns.map V.int) ∧ 0 ≤ k ∧ k ≤ 1000 ∧ ∀ v : Int, 0 ≤ v → v < 2147483647 → Q (.int v) H
def spSigns : Sp := fun vs H Q _ => ∃ c : Int, vs = [.int c] ∧ Plain H ∧ ∀ l (a b d : Nat) H', good a = true → good b = true → good d = true → Same H H' → Plain H' → H l = none → H' l = some (.lst [.str ⟨#[a]⟩, .str ⟨#[b]⟩, .str ⟨#[d]⟩]) → Q (.ref l) H'
def spNames : Sp := fun vs H Q _ => ∃ c : Int, vs = [.int c] ∧ 0 ≤ c ∧ c < 2147483648 ∧ Plain H ∧ ∀ l (ns : List Str) H', ns.length = 4 → (∀ z ∈ ns, isNameS z = true) → Same H H' → Plain H' → H l = none → H' l = some (.lst (ns.map V.str)) → Q (.ref l) H'
def spWorthL : Sp := fun vs H Q _ => ∃ c : Int, vs = [.int c] ∧ ∀ z : Int, 0 ≤ z → z ≤ 10 ^ 60 → Q (.int z) H
def spParts : Sp := fun vs H Q _ => ∃ (c : Int) (m : Addr) (zs : List Str) (n : Int), vs = [.int c, .ref m, .int n] ∧ H m = some (.lst (zs.map V.str)) ∧ 1 ≤ zs.length ∧ zs.length ≤ 100 ∧ 0 ≤ n ∧ n ≤ 6 ∧ Plain H ∧
  ∀ t (ps : List Str) H', (ps.length : Int) ≤ n → (∀ p ∈ ps, p ∈ zs) → Same H H' → Plain H' → H t = none → H' t = some (.tup (ps.map V.str)) → Q (.ref t) H'
def SOME : Str := halfOf s__law_signs 0 ++ halfOf s__law_signs 1
theorem some_list : SOME.cps.toList = goodCodes := by decide +kernel
theorem some_line : SOME.length ≤ sizeLine := line1000 (by decide +kernel)
theorem name_part {z : Str} (h : isNameS z = true) : isPartS z = true := by
  unfold isPartS
  rw [h, Bool.or_true]
theorem name_cut {z : Str} {c : Nat} {j : Int} (hz : z.length ≤ 7) (hl : z.cps.toList.all letter = true) (hc : letter c = true) (h0 : 0 ≤ j) (h1 : j ≤ z.length) :
    isNameS (Txt.slice z none (some j) ++ ⟨#[c]⟩ ++ Txt.slice z (some j) none) = true := by
  rw [isName_list, app_list, app_list, slice_to h0 h1, slice_from h0 h1]
  have hzl : z.cps.toList.length = z.length := Array.length_toList
  unfold nameL
  have e1 : ((z.cps.toList.take j.toNat ++ [c] ++ z.cps.toList.drop j.toNat).length) = z.length + 1 := by
    rw [List.length_append, List.length_append, List.length_take, List.length_drop, hzl]
    show min j.toNat z.length + 1 + (z.length - j.toNat) = _
    omega
  show (decide (1 ≤ (z.cps.toList.take j.toNat ++ [c] ++ z.cps.toList.drop j.toNat).length) && decide ((z.cps.toList.take j.toNat ++ [c] ++ z.cps.toList.drop j.toNat).length ≤ 8) && (z.cps.toList.take j.toNat ++ [c] ++ z.cps.toList.drop j.toNat).all letter) = true
  rw [e1, decide_eq_true (by omega), decide_eq_true (by omega)]
  rw [List.all_eq_true] at hl
  rw [List.all_append, List.all_append]
  have a1 : (z.cps.toList.take j.toNat).all letter = true := List.all_eq_true.mpr fun x hx => hl x (List.mem_of_mem_take hx)
  have a2 : (z.cps.toList.drop j.toNat).all letter = true := List.all_eq_true.mpr fun x hx => hl x (List.mem_of_mem_drop hx)
  rw [a1, a2]
  show (true && (true && [c].all letter && true)) = true
  rw [List.all_cons, hc]
  rfl
theorem name_mul {c : Nat} {n : Int} (hc : letter c = true) (h0 : 1 ≤ n) (h1 : n ≤ 8) : isNameS (Txt.mul ⟨#[c]⟩ n) = true := by
  rw [isName_list, PyProof.Rows.mul_one_list]
  unfold nameL
  rw [List.length_replicate, decide_eq_true (by omega), decide_eq_true (by omega)]
  show (List.replicate n.toNat c).all letter = true
  rw [List.all_eq_true]
  intro x hx
  rw [(List.mem_replicate.mp hx).2]
  exact hc
section
variable {P : Program} {w : World} {K : PySem.W.Frag} {mg : Str → Option Value} {base : Heap} {C : Adr}
theorem sc__law_cell_at : FnScope ["_law_script", "_law_k"] ["_law_script", "_law_k"] (defScope s__law_cell_at) := ⟨rfl, rfl, rfl, by decide +kernel, rfl, by decide +kernel, by decide +kernel⟩
theorem ok__law_cell_at {f : Addr} {fd : FuncData} (F : Fun K "_law_cell_at" "_law_cell_at" s__law_cell_at f fd) (T : Txt K mg C) : FnOk P w K mg base CX0 1 f fd ["_law_script", "_law_k"] (spCell K) := by
  refine F.ok sc__law_cell_at (fun vs H Q E h => ?_) (fun cdv A outer s H vs Q E hr h => ?_)
  · obtain ⟨a, ns, k, rfl, _⟩ := h
    rfl
  · obtain ⟨a, ns, k, rfl, hS, h0, q⟩ := h
    refine ⟨_, (pss_cons (ps_if (pt_cmpR op_lt (pv 1) (pe_callB (call_len_seqK K rfl) (by rfl) T.z_len PyProof.Rows.Boot.«len» (pa_cons (pv 0) pa_nil)) (nomark _)) (pss_one (ps_ret (pe_ix (ix_listK K rfl) (pv 0) (pv 1) (fun _ _ => rfl)))) pss_nil)
      (pss_one (ps_ret pe_int))), ?_⟩
    refine ⟨_, rfl, _, rfl, a, _, rfl, .inl hS, _, _, rfl, rfl, _, rfl, ?_⟩
    refine ite2 (fun h1 => ?_) fun h1 => ?_
    · have h1' := of_decide_eq_true h1
      obtain ⟨v, hv, hm⟩ := atI_some h0 h1'
      obtain ⟨n, _, rfl⟩ := List.mem_map.mp hm
      exact ⟨_, rfl, _, rfl, a, _, k, _, rfl, rfl, hS, hv, q n⟩
    · exact q 0
theorem sc__law_mixed : FnScope ["_law_script", "_law_k", "_law_cell"] ["_law_script", "_law_k"] (defScope s__law_mixed) := ⟨rfl, rfl, rfl, by decide +kernel, rfl, by decide +kernel, by decide +kernel⟩
theorem ok__law_mixed {f : Addr} {fd : FuncData} (F : Fun K "_law_mixed" "_law_mixed" s__law_mixed f fd) (T : Txt K mg C) (U__law_cell_at : Used P w K mg CX0 1 "_law_cell_at" ["_law_script", "_law_k"] (spCell K)) : FnOk P w K mg base CX0 2 f fd ["_law_script", "_law_k"] (spMixed K) := by
  obtain ⟨f__law_cell_at, fd__law_cell_at, G__law_cell_at, m__law_cell_at, k__law_cell_at, b__law_cell_at⟩ := U__law_cell_at.ok
  refine F.ok sc__law_mixed (fun vs H Q E h => ?_) (fun cdv A outer s H vs Q E hr h => ?_)
  · obtain ⟨a, ns, k, rfl, _⟩ := h
    rfl
  · obtain ⟨a, ns, k, rfl, hS, k0, k1, q⟩ := h
    refine ⟨_, (pss_cons (ps_set (i := 2) sc__law_mixed.nd rfl (Or.inl rfl) (pe_op op_mod (pe_call (G__law_cell_at base) (hr.mono (by decide)) (by rfl) m__law_cell_at k__law_cell_at b__law_cell_at .nil pass0 (pa_cons (pv 0) (pa_cons (pv 1) pa_nil))) pe_int))
      (pss_one (ps_ret (pe_op op_mod (pe_op op_mul (pe_op op_add (pe_op op_add (pe_op op_add (pe_op op_mul (pv 2) (pv 2)) (pv 2)) (pe_op op_mul (pe_op op_mul pe_int (pv 1)) (pv 1))) pe_int) pe_int) pe_int)))), ?_⟩
    refine ⟨_, rfl, _, rfl, a, ns, k, rfl, hS, k0, fun v => ⟨_, _, rfl, rfl, (by show (0 : Int) < 2147483629; decide), ?_⟩⟩
    have c0 : 0 ≤ v % 2147483629 := by omega
    have c1 : v % 2147483629 < 2147483629 := by omega
    refine ⟨_, rfl, _, rfl, _, _, rfl, rfl, .inl ⟨by omega, by omega⟩, _, rfl, _, _, rfl, rfl, _, rfl, _, _, rfl, rfl, .inl ⟨by decide, by decide⟩, _, rfl, _, _, rfl, rfl, .inr ⟨by omega, by omega⟩, _, _, rfl, rfl, _, _, rfl, rfl, _, _, rfl, rfl, .inr ⟨by decide, by decide⟩, _, _, rfl, rfl, (by show (0 : Int) < 2147483647; decide), q _ ?_ ?_⟩
    · exact Int.emod_nonneg _ (by decide)
    · exact Int.emod_lt_of_pos _ (by decide)
theorem sc__law_signs : FnScope ["_law_cell", "_law_some"] ["_law_cell"] (defScope s__law_signs) := ⟨rfl, rfl, rfl, by decide +kernel, rfl, by decide +kernel, by decide +kernel⟩
theorem ok__law_signs {f : Addr} {fd : FuncData} (F : Fun K "_law_signs" "_law_signs" s__law_signs f fd) (T : Txt K mg C) : FnOk P w K mg base CX0 1 f fd ["_law_cell"] (spSigns) := by
  refine F.ok sc__law_signs (fun vs H Q E h => ?_) (fun cdv A outer s H vs Q E hr h => ?_)
  · obtain ⟨c, rfl, _⟩ := h
    rfl
  · obtain ⟨c, rfl, hp, q⟩ := h
    refine ⟨_, (pss_cons (ps_set (i := 1) sc__law_signs.nd rfl (Or.inl rfl) pe_str)
      (pss_cons (ps_set (i := 1) sc__law_signs.nd rfl (Or.inl rfl) (pe_op op_add_str (pv 1) pe_str))
      (pss_one (ps_ret (pe_lst (pa_cons (pe_ix ix_str (pv 1) (pe_op op_mod (pv 0) pe_int) (fun _ _ => rfl)) (pa_cons (pe_ix ix_str (pv 1) (pe_op op_mod (pe_op op_add (pe_op op_add (pv 0) pe_int) (pe_op op_mod (pe_op op_fdiv (pv 0) pe_int) pe_int)) pe_int) (fun _ _ => rfl)) (pa_cons (pe_ix ix_str (pv 1) (pe_op op_mod (pe_op op_add (pe_op op_add (pv 0) pe_int) (pe_op op_mod (pe_op op_fdiv (pv 0) pe_int) pe_int)) pe_int) (fun _ _ => rfl)) pa_nil)))))))), ?_⟩
    refine ⟨_, rfl, halfOf s__law_signs 0, halfOf s__law_signs 1, rfl, rfl, by decide +kernel, ?_⟩
    have at_ : ∀ i : Int, ∃ k, atI SOME.cps.toList (i % 94) = some k ∧ good k = true := fun i => by
      obtain ⟨k, hk, hm⟩ := atI_some (xs := SOME.cps.toList) (i := i % 94) (by omega) (by rw [some_list, codes_len]; omega)
      rw [some_list] at hm
      exact ⟨k, hk, codes_good hm⟩
    obtain ⟨k1, e1, g1⟩ := at_ c
    obtain ⟨k2, e2, g2⟩ := at_ (c + 1 + c / 94 % 46)
    obtain ⟨k3, e3, g3⟩ := at_ (c + 47 + c / 4324 % 46)
    refine ⟨_, rfl, _, rfl, _, _, rfl, rfl, (by show (0 : Int) < 94; decide), SOME, _, k1, rfl, rfl, some_line, e1, ?_⟩
    refine ⟨_, rfl, _, rfl, _, _, rfl, rfl, _, rfl, _, _, rfl, rfl, ⟨by decide, by decide⟩, _, _, rfl, rfl, (by show (0 : Int) < 46; decide), _, _, rfl, rfl, _, _, rfl, rfl, (by show (0 : Int) < 94; decide), SOME, _, k2, rfl, rfl, some_line, e2, ?_⟩
    refine ⟨_, rfl, _, rfl, _, _, rfl, rfl, _, rfl, _, _, rfl, rfl, ⟨by decide, by decide⟩, _, _, rfl, rfl, (by show (0 : Int) < 46; decide), _, _, rfl, rfl, _, _, rfl, rfl, (by show (0 : Int) < 94; decide), SOME, _, k3, rfl, rfl, some_line, e3, ?_⟩
    exact ⟨line1000 (by show 3 ≤ 1000; decide), fun l hl => q l k1 k2 k3 _ g1 g2 g3 (Same.upd hl) (hp.upd rfl) hl upd_same⟩
theorem sc__law_names : FnScope ["_law_cell", "_law_big", "_law_odd", "_law_k", "_law_base", "_law_at"] ["_law_cell"] (defScope s__law_names) := ⟨rfl, rfl, rfl, by decide +kernel, rfl, by decide +kernel, by decide +kernel⟩
theorem ok__law_names {f : Addr} {fd : FuncData} (F : Fun K "_law_names" "_law_names" s__law_names f fd) (T : Txt K mg C) : FnOk P w K mg base CX0 1 f fd ["_law_cell"] (spNames) := by
  refine F.ok sc__law_names (fun vs H Q E h => ?_) (fun cdv A outer s H vs Q E hr h => ?_)
  · obtain ⟨c, rfl, _⟩ := h
    rfl
  · obtain ⟨c, rfl, c0, c1, hp, q⟩ := h
    refine ⟨_, (pss_cons (ps_set (i := 1) sc__law_names.nd rfl (Or.inr rfl) pe_str)
      (pss_cons (ps_set (i := 2) sc__law_names.nd rfl (Or.inr rfl) (pe_op op_mod (pv 0) pe_int))
      (pss_cons (ps_set (i := 0) sc__law_names.nd rfl (Or.inl rfl) (pe_op op_fdiv (pv 0) pe_int))
      (pss_cons (ps_if (pt_cmpR op_eq (pe_op op_mod (pv 0) pe_int) pe_int (nomark _)) (pss_one (ps_ret (pe_comp (N := ["_law_k", "_law_big", "_law_odd"]) (ρ := [none, some 1, some 2]) rfl (CompScope.closes ["_law_cell", "_law_big", "_law_odd", "_law_k", "_law_base", "_law_at"] (defScope s__law_names).names rfl rfl rfl rfl (by decide +kernel) (by decide +kernel) (fun x h => cell_has h) (by decide +kernel) rfl (by decide +kernel)) (pi_range1 rfl T.z_range (pa_cons pe_int pa_nil)) (fun _ _ _ _ _ => (pg_name (i := 0) nd_LG__law_k__law_big__law_odd rfl (Or.inl rfl) (.inr rfl))) (fun _ _ _ _ _ => pts_nil) (fun _ _ _ _ _ => (pe_op op_mul_str (pe_ix ix_str (pv 1) (pv 2) (fun _ _ => rfl)) (pe_op op_sub (pe_op op_add (pe_op op_mul pe_int (pv 0)) pe_int) (pe_op op_fdiv (pv 0) pe_int))))))) pss_nil)
      (pss_cons (ps_set (i := 4) sc__law_names.nd rfl (Or.inr rfl) pe_str)
      (pss_cons (ps_for PassesOwn.never rfl (pi_range1 rfl T.z_range (pa_cons (pe_op op_mod (pe_op op_fdiv (pv 0) pe_int) pe_int) pa_nil)) (pg_name (i := 3) sc__law_names.nd rfl (Or.inl rfl)) (pss_one (ps_set (i := 4) sc__law_names.nd rfl (Or.inr rfl) (pe_op op_add_str (pv 4) (pe_ix ix_str (pv 1) (pe_op op_mod (pe_op op_fdiv (pe_op op_mul (pv 0) (pe_op op_add (pv 3) pe_int)) pe_int) pe_int) (fun _ _ => rfl))))))
      (pss_cons (ps_set (i := 5) sc__law_names.nd rfl (Or.inr rfl) (pe_op op_mod (pe_op op_fdiv (pv 0) pe_int) (pe_op op_add (pe_callB call_len_str (by rfl) T.z_len PyProof.Rows.Boot.«len» (pa_cons (pv 4) pa_nil)) pe_int)))
      (pss_one (ps_ret (pe_comp (N := ["_law_k", "_law_at", "_law_base", "_law_big", "_law_odd"]) (ρ := [none, some 5, some 4, some 1, some 2]) rfl (CompScope.closes ["_law_cell", "_law_big", "_law_odd", "_law_k", "_law_base", "_law_at"] (defScope s__law_names).names rfl rfl rfl rfl (by decide +kernel) (by decide +kernel) (fun x h => cell_has h) (by decide +kernel) rfl (by decide +kernel)) (pi_range1 rfl T.z_range (pa_cons pe_int pa_nil)) (fun _ _ _ _ _ => (pg_name (i := 0) nd_LG__law_k__law_at__law_base__law_big__law_odd rfl (Or.inl rfl) (.inr rfl))) (fun _ _ _ _ _ => pts_nil) (fun _ _ _ _ _ => (pe_op op_add_str (pe_op op_add_str (pe_slice sl_str (pv 2) po_none (po_some (pv 1))) (pe_ix ix_str (pv 3) (pe_op op_add (pv 4) (pv 0)) (fun _ _ => rfl))) (pe_slice sl_str (pv 2) (po_some (pv 1)) po_none))))))))))))), ?_⟩
    refine ⟨_, rfl, _, _, rfl, rfl, (by show (0 : Int) < 23; decide), ?_⟩
    refine ⟨_, rfl, _, _, rfl, rfl, ⟨by decide, by decide⟩, ?_⟩
    refine ⟨_, rfl, _, _, rfl, rfl, (by show (0 : Int) < 4; decide), rfl, _, rfl, ite2 (fun h0 => ?_) fun h0 => ?_⟩
    · refine ⟨4, rfl, by decide, by decide, fun l hl => ?_⟩
      refine comp_items (n := 4) 0 (fun k y _ => ∃ z, y = .str z ∧ isNameS z = true) gives_range (fun _ _ _ _ _ h => h) hp hl (by show 0 < 3; decide) (line1000 (by decide)) (fun τ' => ∃ v, τ' = [v, some (.str BIG), some (.int (c % 23))]) ⟨_, rfl⟩ ?_ ?_ ?_
      · rintro τ' v ⟨w, rfl⟩
        exact ⟨v, rfl⟩
      · rintro τ' k x H' R ⟨w, rfl⟩ hτ hit hk hs hp' hlne hR
        have ew : w = some x := by simpa using hτ
        subst ew hit
        obtain ⟨c2, hc2, hm⟩ := atI_some (xs := BIG.cps.toList) (i := c % 23) (by omega) (by rw [big_len]; omega)
        refine ⟨_, rfl, _, rfl, BIG, _, c2, rfl, rfl, big_line, hc2, _, rfl, _, _, rfl, rfl, .inl ⟨by decide, by decide⟩, _, _, rfl, rfl, _, rfl, _, _, rfl, rfl, ⟨by decide, by decide⟩, _, _, rfl, rfl, _, _, rfl, rfl, (by show 1 ≤ 1000; decide), ?_, ?_, hR _ _ (Same.refl _) hp' ⟨_, rfl, name_mul (big_letter hm) ?_ ?_⟩⟩ <;> omega
      · intro ys H' hy hP hs hp' hl'
        obtain ⟨zs, rfl, hz⟩ := strs_items hP
        exact q l zs H' (by rw [List.length_map] at hy; exact hy) hz hs hp' hl hl'
    · refine ⟨_, rfl, _, _, rfl, rfl, ⟨by decide, by decide⟩, _, _, rfl, rfl, (by show (0 : Int) < 8; decide), _, rfl, (in62 (by omega) (by omega)).1, (in62 (by omega) (by omega)).2, ?_⟩
      refine for_range (lo := 0) (n := (c / 23 / 4 % 8).toNat) (fun i σ H2 => H2 = H ∧ ∃ (z : Str) (v : Option V), σ = [some (.int (c / 23)), some (.str BIG), some (.int (c % 23)), v, some (.str z), none] ∧ z.length = i ∧ z.cps.toList.all letter = true) ⟨rfl, _, none, rfl, (by decide +kernel), (by decide +kernel)⟩ ?_ ?_
      · rintro i σ H2 hi ⟨rfl, z, v, rfl, hz, hzl⟩
        have hi8 : i < 8 := by omega
        obtain ⟨c2, hc2, hm⟩ := atI_some (xs := BIG.cps.toList) (i := c / 23 * (0 + (i : Int) + 3) / 7 % 26) (by omega) (by rw [big_len]; omega)
        refine ⟨_, rfl, _, rfl, _, rfl, _, rfl, _, _, rfl, rfl, _, _, rfl, rfl, .inl ⟨by omega, by omega⟩, _, _, rfl, rfl, ⟨by decide, by decide⟩, _, _, rfl, rfl, (by show (0 : Int) < 26; decide), BIG, _, c2, rfl, rfl, big_line, hc2, z, _, rfl, rfl, line1000 (by show z.length + 1 ≤ 1000; omega), ?_⟩
        refine ⟨rfl, z ++ ⟨#[c2]⟩, _, rfl, by rw [slen, hz]; rfl, ?_⟩
        rw [app_list, List.all_append, hzl]
        show (true && [c2].all letter) = true
        rw [List.all_cons, big_letter hm]
        rfl
      · rintro σ H2 ⟨rfl, z, v, rfl, hz, hzl⟩
        have hz7 : z.length ≤ 7 := by omega
        refine ⟨_, rfl, _, _, rfl, rfl, ⟨by decide, by decide⟩, _, rfl, z, rfl, line1000 (by omega), _, _, rfl, rfl, _, _, rfl, rfl, (by show (0 : Int) < (z.length : Int) + 1; omega), ?_⟩
        have a0 : 0 ≤ c / 23 / 32 % ((z.length : Int) + 1) := Int.emod_nonneg _ (by omega)
        have a1 : c / 23 / 32 % ((z.length : Int) + 1) < (z.length : Int) + 1 := Int.emod_lt_of_pos _ (by omega)
        obtain ⟨at_, hat⟩ : ∃ a, a = c / 23 / 32 % ((z.length : Int) + 1) := ⟨_, rfl⟩
        rw [← hat] at a0 a1
        refine ⟨4, rfl, by decide, by decide, fun l hl => ?_⟩
        refine comp_items (n := 4) 0 (fun k y _ => ∃ z, y = .str z ∧ isNameS z = true) gives_range (fun _ _ _ _ _ h => h) hp hl (by show 0 < 5; decide) (line1000 (by decide)) (fun τ' => ∃ v, τ' = [v, some (.int at_), some (.str z), some (.str BIG), some (.int (c % 23))]) ⟨none, by rw [hat]; rfl⟩ ?_ ?_ ?_
        · rintro τ' v ⟨w, rfl⟩
          exact ⟨v, rfl⟩
        · rintro τ' k x H' R ⟨w, rfl⟩ hτ hit hk hs hp' hlne hR
          have ew : w = some x := by simpa using hτ
          subst ew hit
          obtain ⟨c2, hc2, hm⟩ := atI_some (xs := BIG.cps.toList) (i := c % 23 + (0 + (k : Int))) (by omega) (by rw [big_len]; omega)
          have q1 := Txt.slice_le z none (some at_)
          have q2 := Txt.slice_le z (some at_) none
          refine ⟨_, rfl, _, rfl, _, rfl, z, rfl, line1000 (by omega), _, rfl, _, rfl, _, rfl, _, _, rfl, rfl, BIG, _, c2, rfl, rfl, big_line, hc2, _, _, rfl, rfl, line1000 (by show _ + 1 ≤ 1000; omega), _, rfl, _, rfl, _, rfl, z, rfl, line1000 (by omega), _, _, rfl, rfl, line1000 (by rw [slen]; show _ + 1 + _ ≤ 1000; omega), hR _ _ (Same.refl _) hp' ⟨_, rfl, name_cut hz7 hzl (big_letter hm) a0 (by omega)⟩⟩
        · intro ys H' hy hP hs hp' hl'
          obtain ⟨zs, rfl, hz⟩ := strs_items hP
          exact q l zs H' (by rw [List.length_map] at hy; exact hy) hz hs hp' hl hl'
theorem sc__law_worth : FnScope ["_law_cell"] ["_law_cell"] (defScope s__law_worth) := ⟨rfl, rfl, rfl, by decide +kernel, rfl, by decide +kernel, by decide +kernel⟩
theorem ok__law_worth {f : Addr} {fd : FuncData} (F : Fun K "_law_worth" "_law_worth" s__law_worth f fd) (T : Txt K mg C) : FnOk P w K mg base CX0 1 f fd ["_law_cell"] (spWorthL) := by
  refine F.ok sc__law_worth (fun vs H Q E h => ?_) (fun cdv A outer s H vs Q E hr h => ?_)
  · obtain ⟨c, rfl, _⟩ := h
    rfl
  · obtain ⟨c, rfl, q⟩ := h
    refine ⟨_, (pss_cons (ps_if (pt_cmpR op_eq (pe_op op_mod (pv 0) pe_int) pe_int (nomark _)) (pss_one (ps_ret (pe_op op_mod (pe_op op_fdiv (pv 0) pe_int) (pe_op op_add (pe_op op_pow pe_int pe_int) pe_int)))) pss_nil)
      (pss_one (ps_ret (pe_op op_mod (pe_op op_fdiv (pv 0) pe_int) pe_int)))), ?_⟩
    have big : (1000 : Int) ≤ 10 ^ 60 := by decide
    refine ⟨_, rfl, _, _, rfl, rfl, (by show (0 : Int) < 3; decide), rfl, _, rfl, ite2 (fun _ => ?_) fun _ => ?_⟩
    · refine ⟨_, rfl, _, _, rfl, rfl, ⟨by decide, by decide⟩, _, _, rfl, rfl, ⟨by decide, by decide, by decide⟩, _, _, rfl, rfl, _, _, rfl, rfl, (by show (0 : Int) < 10 ^ (60 : Int).toNat + 1; decide), q _ ?_ ?_⟩
      · exact Int.emod_nonneg _ (by decide)
      · exact Int.le_of_lt_add_one (Int.emod_lt_of_pos _ (by decide))
    · refine ⟨_, rfl, _, _, rfl, rfl, ⟨by decide, by decide⟩, _, _, rfl, rfl, (by show (0 : Int) < 4; decide), q _ ?_ ?_⟩
      · show 0 ≤ c / 3 % 4
        omega
      · show c / 3 % 4 ≤ 10 ^ 60
        omega
theorem sc__law_parts : FnScope ["_law_cell", "_law_menu", "_law_most", "_law_size", "_law_parts_here", "_law_k"] ["_law_cell", "_law_menu", "_law_most"] (defScope s__law_parts) := ⟨rfl, rfl, rfl, by decide +kernel, rfl, by decide +kernel, by decide +kernel⟩
theorem ok__law_parts {f : Addr} {fd : FuncData} (F : Fun K "_law_parts" "_law_parts" s__law_parts f fd) (T : Txt K mg C) : FnOk P w K mg base CX0 1 f fd ["_law_cell", "_law_menu", "_law_most"] (spParts) := by
  refine F.ok sc__law_parts (fun vs H Q E h => ?_) (fun cdv A outer s H vs Q E hr h => ?_)
  · obtain ⟨c, m, zs, n, rfl, _⟩ := h
    rfl
  · obtain ⟨c, m, zs, n, rfl, hm, z1, z2, n0, n6, hp, q⟩ := h
    refine ⟨_, (pss_cons (ps_set (i := 3) sc__law_parts.nd rfl (Or.inl rfl) (pe_op op_mod (pv 0) (pe_op op_add (pv 2) pe_int)))
      (pss_cons (ps_set (i := 0) sc__law_parts.nd rfl (Or.inl rfl) (pe_op op_fdiv (pv 0) (pe_op op_add (pv 2) pe_int)))
      (pss_cons (ps_set (i := 4) sc__law_parts.nd rfl (Or.inl rfl) (pe_lst pa_nil))
      (pss_cons (ps_for PassesOwn.never rfl (pi_range1 rfl T.z_range (pa_cons (pv 3) pa_nil)) (pg_name (i := 5) sc__law_parts.nd rfl (Or.inl rfl)) (pss_cons (ps_expr (pe_bmK K rfl PySem.F.plainAttrs_list PySem.F.slot_list_append PySem.F.type_list_append mt_append (pv 4) (pa_cons (pe_ix (ix_listK K rfl) (pv 1) (pe_op op_mod (pv 0) (pe_callB (call_len_seqK K rfl) (by rfl) T.z_len PyProof.Rows.Boot.«len» (pa_cons (pv 1) pa_nil))) (fun _ _ => rfl)) pa_nil)))
      (pss_one (ps_set (i := 0) sc__law_parts.nd rfl (Or.inl rfl) (pe_op op_fdiv (pv 0) (pe_callB (call_len_seqK K rfl) (by rfl) T.z_len PyProof.Rows.Boot.«len» (pa_cons (pv 1) pa_nil)))))))
      (pss_one (ps_ret (pe_callTy (call_tuple_ofK K rfl) (by rfl) T.z_tuple PyProof.Rows.Boot.«tuple» (pa_cons (pv 4) pa_nil)))))))), ?_⟩
    refine ⟨_, rfl, _, rfl, _, _, rfl, rfl, _, _, rfl, rfl, (by show (0 : Int) < n + 1; omega), ?_⟩
    refine ⟨_, rfl, _, rfl, _, _, rfl, rfl, _, _, rfl, rfl, ⟨by omega, by omega⟩, ?_⟩
    have s0 : 0 ≤ c % (n + 1) := Int.emod_nonneg _ (by omega)
    have s1 : c % (n + 1) < n + 1 := Int.emod_lt_of_pos _ (by omega)
    obtain ⟨sz, hsz⟩ : ∃ sz, sz = c % (n + 1) := ⟨_, rfl⟩
    rw [← hsz] at s0 s1
    refine ⟨Nat.zero_le _, fun l hl => ?_⟩
    refine ⟨_, rfl, sz, by rw [hsz], (in62 (by omega) (by omega)).1, (in62 (by omega) (by omega)).2, ?_⟩
    have nml : m ≠ l := ne_of_none hm hl
    refine for_range (lo := 0) (n := sz.toNat) (fun i σ H2 => ∃ (ps : List Str) (x : Int) (v : Option V), H2 = upd H l (.lst (ps.map V.str)) ∧ ps.length = i ∧ (∀ p ∈ ps, p ∈ zs) ∧ σ = [some (.int x), some (.ref m), some (.int n), some (.int sz), some (.ref l), v]) ⟨[], _, none, rfl, rfl, by simp, by rw [hsz]; rfl⟩ ?_ ?_
    · rintro i σ H2 hi ⟨ps, x, v, rfl, hpl, hpm, rfl⟩
      have hm2 : upd H l (.lst (ps.map V.str)) m = some (.lst (zs.map V.str)) := by rw [upd_ne nml]; exact hm
      have hzl : ((zs.map V.str).length : Int) = (zs.length : Int) := by rw [List.length_map]
      obtain ⟨y, hy, hmem⟩ := atI_some (xs := zs.map V.str) (i := x % ((zs.map V.str).length : Int)) (Int.emod_nonneg _ (by omega)) (Int.emod_lt_of_pos _ (by omega))
      obtain ⟨z, hz, rfl⟩ := List.mem_map.mp hmem
      refine ⟨_, rfl, .inl ⟨rfl, _, SqL.of upd_same⟩, _, rfl, _, rfl, _, rfl, m, _, rfl, .inl (SqL.of hm2), _, _, rfl, rfl, (by omega), m, _, _, _, rfl, rfl, SqL.of hm2, hy, l, _, .str z, rfl, rfl, upd_same, ?_, ?_⟩
      · rw [List.length_map]
        exact Nat.lt_of_lt_of_le (show _ < 1000 by omega) (line1000 (Nat.le_refl _))
      · refine ⟨_, rfl, _, rfl, m, zs.map V.str, rfl, .inl (SqL.of ?_), _, _, rfl, rfl, ⟨by show (0 : Int) < ((zs.map V.str).length : Int); omega, by show ((zs.map V.str).length : Int) < 1073741824; omega⟩, ps ++ [z], _, _, ?_, by rw [List.length_append, hpl]; rfl, ?_, rfl⟩
        · rw [upd_upd, upd_ne nml]; exact hm
        · rw [upd_upd, List.map_append]; rfl
        · intro p hp
          rcases List.mem_append.mp hp with h | h
          · exact hpm p h
          · rw [List.mem_singleton.mp h]; exact hz
    · rintro σ H2 ⟨ps, x, v, rfl, hpl, hpm, rfl⟩
      refine ⟨_, rfl, l, _, rfl, .inl ⟨SqL.of upd_same, fun t ht => ?_⟩⟩
      have s2 := Same.upd (o := .lst (ps.map V.str)) hl
      exact q t ps _ (by omega) hpm (s2.trans (Same.upd ht)) ((hp.upd rfl).upd rfl) (s2.free ht) upd_same
end
end FR


set_option linter.all false
set_option maxRecDepth 100000
set_option maxHeartbeats 4000000
namespace FR
open PySem L2
theorem nd_LB4__law_sign : (["_law_sign"] : List Str).Nodup := by decide +kernel
def spBare (K : PySem.W.Frag) : Sp := fun vs H Q _ => ∃ (a : Addr) (ns : List Int) (m n : Int), vs = [.ref a, .int m, .int n] ∧ SqL K H a (ns.map V.int) ∧ ns.length ≤ 63 ∧ 0 ≤ m ∧ m ≤ 60 ∧ 0 ≤ n ∧ n ≤ 6 ∧ Plain H ∧
  ∀ l xs g H' (nm : List Str), okGram g = true → Same H H' → Plain H' → H l = none → H' l = some (.lst xs) → Dens (del H' l) xs (g.map ruleD) → nm.length = 4 → (∀ r ∈ g, r.1 ∈ nm ∧ (r.2.1.length : Int) ≤ n) → Q (.ref l) H'
theorem rule_parts {r : Rule} (h : okRule r = true) : r.2.1.length ≤ 6 ∧ ∀ p ∈ r.2.1, isPartS p = true := by
  unfold okRule at h
  simp only [Bool.and_eq_true, decide_eq_true_eq] at h
  exact ⟨h.2.1.1, List.all_eq_true.mp h.2.1.2⟩
theorem rule_head {r : Rule} (h : okRule r = true) : isNameS r.1 = true := by
  unfold okRule at h
  rw [Bool.and_eq_true] at h
  exact h.1
theorem decS {x y : Str} : decide (V.str x = V.str y) = decide (x = y) := by
  by_cases h : x = y
  · rw [decide_eq_true h, decide_eq_true (by rw [h])]
  · rw [decide_eq_false h, decide_eq_false (fun e => h (V.str.inj e))]
theorem isQ_code (z : Str) : isQ z = decide (z.cps.toList[0]? = some 39) := by
  have e0 : (("'" : Str)) = ⟨#[39]⟩ := by decide +kernel
  unfold isQ
  rw [e0, Bool.eq_iff_iff, decide_eq_true_eq]
  have := StrLaws.subAt_one z 39 0
  unfold Txt.startswith
  rw [Bool.and_eq_true, decide_eq_true_eq]
  exact this
theorem part_first {p : Str} (h : isPartS p = true) : ∃ c, atI p.cps.toList 0 = some c ∧ p.length ≤ 8 ∧ decide (V.str ⟨#[c]⟩ = V.str "'") = isQ p := by
  have h8 := part_len h
  have h1 : 0 < p.cps.toList.length := by
    rw [Array.length_toList]
    unfold isPartS at h
    rw [Bool.or_eq_true] at h
    rcases h with h | h
    · unfold isSignS at h
      rw [Bool.and_eq_true, Bool.and_eq_true] at h
      have : p.cps.size = 2 := eq_of_beq h.1.1
      omega
    · unfold isNameS at h
      rw [Bool.and_eq_true, Bool.and_eq_true] at h
      have : 1 ≤ p.cps.size := of_decide_eq_true h.1.1
      omega
  have e : p.cps.toList[0]? = some p.cps.toList[0] := List.getElem?_eq_getElem h1
  refine ⟨p.cps.toList[0], atI_nat (j := 0) e, h8, ?_⟩
  rw [isQ_code, e, decS]
  have e0 : (("'" : Str)) = ⟨#[39]⟩ := by decide +kernel
  rw [e0]
  by_cases hc : p.cps.toList[0] = 39
  · rw [decide_eq_true (by rw [hc]), decide_eq_true (by rw [hc])]
  · rw [decide_eq_false (fun z => hc (by injection z with z; simpa using z)), decide_eq_false (fun z => hc (Option.some.inj z))]

def barren (e : Sz) (ps : List Str) : List Str := ps.filter fun x => !isQ x && (look e x).isNone
theorem eqD_nil (bs : List Str) : eqD (.lst (bs.map D.str)) (.lst []) = decide (bs = []) := by
  cases bs with
  | nil => rfl
  | cons b bs => rfl
section
variable {P : Program} {w : World} {K : PySem.W.Frag} {mg : Str → Option Value} {base : Heap} {C : Adr}
theorem sc__law_bare : FnScope ["_law_script", "_law_many", "_law_most", "_law_names_here", "_law_signs_here", "_law_menu", "_law_rules", "_law_k", "_law_cell"] ["_law_script", "_law_many", "_law_most"] (defScope s__law_bare) := ⟨rfl, rfl, rfl, by decide +kernel, rfl, by decide +kernel, by decide +kernel⟩
theorem ok__law_bare {f : Addr} {fd : FuncData} (F : Fun K "_law_bare" "_law_bare" s__law_bare f fd) (T : Txt K mg C) (U__law_names : Used P w K mg CX0 1 "_law_names" ["_law_cell"] (spNames)) (U__law_mixed : Used P w K mg CX0 2 "_law_mixed" ["_law_script", "_law_k"] (spMixed K)) (U__law_signs : Used P w K mg CX0 1 "_law_signs" ["_law_cell"] (spSigns)) (U__law_parts : Used P w K mg CX0 1 "_law_parts" ["_law_cell", "_law_menu", "_law_most"] (spParts)) (U__law_worth : Used P w K mg CX0 1 "_law_worth" ["_law_cell"] (spWorthL)) (U__law_cell_at : Used P w K mg CX0 1 "_law_cell_at" ["_law_script", "_law_k"] (spCell K)) : FnOk P w K mg base CX0 3 f fd ["_law_script", "_law_many", "_law_most"] (spBare K) := by
  obtain ⟨f__law_names, fd__law_names, G__law_names, m__law_names, k__law_names, b__law_names⟩ := U__law_names.ok
  obtain ⟨f__law_mixed, fd__law_mixed, G__law_mixed, m__law_mixed, k__law_mixed, b__law_mixed⟩ := U__law_mixed.ok
  obtain ⟨f__law_signs, fd__law_signs, G__law_signs, m__law_signs, k__law_signs, b__law_signs⟩ := U__law_signs.ok
  obtain ⟨f__law_parts, fd__law_parts, G__law_parts, m__law_parts, k__law_parts, b__law_parts⟩ := U__law_parts.ok
  obtain ⟨f__law_worth, fd__law_worth, G__law_worth, m__law_worth, k__law_worth, b__law_worth⟩ := U__law_worth.ok
  obtain ⟨f__law_cell_at, fd__law_cell_at, G__law_cell_at, m__law_cell_at, k__law_cell_at, b__law_cell_at⟩ := U__law_cell_at.ok
  refine F.ok sc__law_bare (fun vs H Q E h => ?_) (fun cdv A outer s H vs Q E hr h => ?_)
  · obtain ⟨a, ns, m, n, rfl, _⟩ := h
    rfl
  · obtain ⟨a, ns, m, n, rfl, hS, hn, m0, m1, n0, n1, hp, q⟩ := h
    refine ⟨_, (pss_cons (ps_set (i := 3) sc__law_bare.nd rfl (Or.inl rfl) (pe_call (G__law_names base) (hr.mono (by decide)) (by rfl) m__law_names k__law_names b__law_names .nil pass0 (pa_cons (pe_call (G__law_mixed base) (hr.mono (by decide)) (by rfl) m__law_mixed k__law_mixed b__law_mixed .nil pass0 (pa_cons (pv 0) (pa_cons pe_int pa_nil))) pa_nil)))
      (pss_cons (ps_setC (N := ["_law_sign"]) (ρ := [none]) (cl := []) (i := 4) sc__law_bare.nd rfl rfl rfl (CompScope.plain rfl (by decide +kernel) (by decide +kernel) rfl (by simp)) (pi_listK K rfl (pe_call (G__law_signs base) (hr.mono (by decide)) (by rfl) m__law_signs k__law_signs b__law_signs .nil pass0 (pa_cons (pe_call (G__law_mixed base) (hr.mono (by decide)) (by rfl) m__law_mixed k__law_mixed b__law_mixed .nil pass0 (pa_cons (pv 0) (pa_cons pe_int pa_nil))) pa_nil))) (fun _ _ _ _ _ => (pg_name (i := 0) nd_LB4__law_sign rfl (Or.inl rfl) (.inr rfl))) (fun _ _ _ _ _ => pts_nil) (fun _ _ _ _ _ => (pe_op op_add_str pe_str (pv 0))))
      (pss_cons (ps_set (i := 5) sc__law_bare.nd rfl (Or.inl rfl) (pe_op op_cat (pe_op op_cat (pv 3) (pv 4)) (pe_lst (pa_cons (pe_ix (ix_listK K rfl) (pv 4) pe_int (fun _ _ => rfl)) pa_nil))))
      (pss_cons (ps_set (i := 6) sc__law_bare.nd rfl (Or.inl rfl) (pe_lst pa_nil))
      (pss_cons (ps_for PassesOwn.never rfl (pi_range1 rfl T.z_range (pa_cons (pe_callB (call_min2 rfl) (by rfl) T.z_min PyProof.Rows.Boot.«min» (pa_cons (pv 1) (pa_cons (pe_callB (call_max2 rfl) (by rfl) T.z_max PyProof.Rows.Boot.«max» (pa_cons pe_int (pa_cons (pe_op op_sub (pe_callB (call_len_seqK K rfl) (by rfl) T.z_len PyProof.Rows.Boot.«len» (pa_cons (pv 0) pa_nil)) pe_int) pa_nil))) pa_nil))) pa_nil)) (pg_name (i := 7) sc__law_bare.nd rfl (Or.inl rfl)) (pss_cons (ps_set (i := 8) sc__law_bare.nd rfl (Or.inl rfl) (pe_call (G__law_mixed base) (hr.mono (by decide)) (by rfl) m__law_mixed k__law_mixed b__law_mixed .nil pass0 (pa_cons (pv 0) (pa_cons (pe_op op_add pe_int (pv 7)) pa_nil))))
      (pss_one (ps_expr (pe_bmK K rfl PySem.F.plainAttrs_list PySem.F.slot_list_append PySem.F.type_list_append mt_append (pv 6) (pa_cons (pe_tup (pa_cons (pe_ix (ix_listK K rfl) (pv 3) (pe_op op_mod (pe_op op_mod (pv 8) pe_int) pe_int) (fun _ _ => rfl)) (pa_cons (pe_call (G__law_parts base) (hr.mono (by decide)) (by rfl) m__law_parts k__law_parts b__law_parts .nil pass0 (pa_cons (pe_op op_fdiv (pv 8) pe_int) (pa_cons (pv 5) (pa_cons (pv 2) pa_nil)))) (pa_cons (pe_call (G__law_worth base) (hr.mono (by decide)) (by rfl) m__law_worth k__law_worth b__law_worth .nil pass0 (pa_cons (pe_call (G__law_cell_at base) (hr.mono (by decide)) (by rfl) m__law_cell_at k__law_cell_at b__law_cell_at .nil pass0 (pa_cons (pv 0) (pa_cons (pe_op op_add pe_int (pv 7)) pa_nil))) pa_nil)) pa_nil)))) pa_nil))))))
      (pss_one (ps_ret (pv 6)))))))), ?_⟩
    refine ⟨_, rfl, a, ns, 0, rfl, hS, by decide, by decide, fun v0 a0 b0 => ⟨_, rfl, a0, by omega, hp, fun ln nm H1 n4 nN s1 p1 hln h1 => ?_⟩⟩
    refine ⟨_, rfl, a, ns, 1, rfl, s1.seq hS, by decide, by decide, fun v1 _ _ => ⟨_, rfl, p1, fun lg c1 c2 c3 H2 g1 g2 g3 s2 p2 hlg h2 => ⟨lg, rfl, ⟨_, SqL.of h2⟩, fun ls hls => ?_⟩⟩⟩
    refine comp_items (n := 3) 0 (fun k y _ => ∃ z, y = .str z ∧ isPartS z = true) (gives_list (SqL.of (K := K) h2)) (fun _ _ _ _ _ h => h) p2 hls Nat.zero_lt_one (line1000 (by decide)) (fun τ' => 0 < τ'.length) Nat.zero_lt_one (fun τ' v h => by rw [List.length_set]; exact h) ?_ ?_
    · intro τ' k y H' R _ hτ hit hk hs hp' hlne hR
      obtain ⟨c, hc, rfl⟩ : ∃ c : Nat, good c = true ∧ y = .str ⟨#[c]⟩ := by
        have hm := List.mem_of_getElem? hit
        simp only [List.mem_cons, List.not_mem_nil, or_false] at hm
        rcases hm with rfl | rfl | rfl
        · exact ⟨c1, g1, rfl⟩
        · exact ⟨c2, g2, rfl⟩
        · exact ⟨c3, g3, rfl⟩
      exact ⟨_, hτ, "'", _, rfl, rfl, line1000 (by show 1 + 1 ≤ 1000; decide), hR _ _ (Same.refl _) hp' ⟨_, rfl, sign_part hc⟩⟩
    intro ys H3 hy hP s3 p3 h3
    obtain ⟨sg, rfl, hsg⟩ := strs_items hP
    have sg3 : sg.length = 3 := by rw [List.length_map] at hy; exact hy
    have h13 := (s2.trans s3) _ _ h1
    refine ⟨_, rfl, _, rfl, ln, ls, _, _, rfl, rfl, h13, h3, line1000 (by rw [List.length_map, List.length_map]; omega), fun q1 hq1 => ?_⟩
    have t1 := Same.upd (o := .lst (nm.map V.str ++ sg.map V.str)) hq1
    obtain ⟨y0, hy0, hm0⟩ := atI_some (xs := sg.map V.str) (i := 0) (by decide) (by rw [List.length_map]; omega)
    obtain ⟨z0, hz0, rfl⟩ := List.mem_map.mp hm0
    refine ⟨_, rfl, ls, _, 0, _, rfl, rfl, SqL.of (t1 _ _ h3), hy0, line1000 (by show 1 ≤ 1000; decide), fun q2 hq2 => ?_⟩
    have t2 := Same.upd (o := .lst [.str z0]) hq2
    refine ⟨q1, q2, _, _, rfl, rfl, t2 _ _ upd_same, upd_same, line1000 (by simp only [List.length_append, List.length_map, List.length_cons, List.length_nil]; omega), fun lm hlm => ?_⟩
    have e3 : nm.map V.str ++ sg.map V.str ++ [V.str z0] = (nm ++ sg ++ [z0]).map V.str := by rw [List.map_append, List.map_append]; rfl
    rw [e3]
    have t3 := Same.upd (o := .lst ((nm ++ sg ++ [z0]).map V.str)) hlm
    have hmenu : ∀ p ∈ nm ++ sg ++ [z0], isPartS p = true := fun p hp => by
      rcases List.mem_append.mp hp with hp | hp
      · rcases List.mem_append.mp hp with hp | hp
        · exact name_part (nN p hp)
        · exact hsg p hp
      · rw [List.mem_singleton.mp hp]; exact hsg z0 hz0
    have hmlen : (nm ++ sg ++ [z0]).length = 8 := by simp only [List.length_append, List.length_cons, List.length_nil]; omega
    have tt := (t1.trans t2).trans t3
    have hn5 := tt _ _ h13
    have hm5 : upd (upd (upd H3 q1 (.lst (nm.map V.str ++ sg.map V.str))) q2 (.lst [.str z0])) lm (.lst ((nm ++ sg ++ [z0]).map V.str)) lm = some (.lst ((nm ++ sg ++ [z0]).map V.str)) := upd_same
    have p5 : Plain (upd (upd (upd H3 q1 (.lst (nm.map V.str ++ sg.map V.str))) q2 (.lst [.str z0])) lm (.lst ((nm ++ sg ++ [z0]).map V.str))) := ((p3.upd rfl).upd rfl).upd rfl
    have s5 := ((s1.trans s2).trans s3).trans tt
    revert hn5 hm5 p5 s5
    generalize upd (upd (upd H3 q1 (.lst (nm.map V.str ++ sg.map V.str))) q2 (.lst [.str z0])) lm (.lst ((nm ++ sg ++ [z0]).map V.str)) = H5
    intro hn5 hm5 p5 s5
    obtain ⟨menu, hmn⟩ : ∃ M, nm ++ sg ++ [z0] = M := ⟨_, rfl⟩
    rw [hmn] at hm5 hmenu hmlen
    refine ⟨Nat.zero_le _, fun l hl => ?_⟩
    obtain ⟨N, hN, N0, N1⟩ : ∃ N : Int, (if (if ((ns.map V.int).length : Int) - 2 > 0 then ((ns.map V.int).length : Int) - 2 else 0) < m then (if ((ns.map V.int).length : Int) - 2 > 0 then ((ns.map V.int).length : Int) - 2 else 0) else m) = N ∧ 0 ≤ N ∧ N ≤ 60 := by
      refine ⟨_, rfl, ?_, ?_⟩
      · repeat' split
        all_goals omega
      · repeat' split
        all_goals omega
    have hSl : SqL K (upd H5 l (.lst [])) a (ns.map V.int) := (s5.trans (Same.upd hl)).seq hS
    refine ⟨_, rfl, _, rfl, a, _, rfl, .inl hSl, _, _, rfl, rfl, _, _, rfl, _, _, rfl, N, by rw [← hN], (in62 (by omega) (by omega)).1, (in62 (by omega) (by omega)).2, ?_⟩
    refine for_range (lo := 0) (n := N.toNat) (fun i σ H6 => ∃ (g : Gram) (xs : List V) (v7 v8 : Option V), σ = [some (.ref a), some (.int m), some (.int n), some (.ref ln), some (.ref ls), some (.ref lm), some (.ref l), v7, v8] ∧ H6 l = some (.lst xs) ∧ Dens (del H6 l) xs (g.map ruleD) ∧ g.length = i ∧ g.all okRule = true ∧ Same H5 H6 ∧ Plain H6 ∧ ∀ r ∈ g, r.1 ∈ nm ∧ (r.2.1.length : Int) ≤ n)
      ⟨[], [], none, none, rfl, upd_same, .nil, rfl, rfl, Same.upd hl, p5.upd rfl, (fun r hr => nomatch hr)⟩ ?_ ?_
    · rintro i σ H6 hi ⟨g, xs, v7, v8, rfl, h6, hds, hgl, hgo, s6, p6, hnm⟩
      have hxl : xs.length = i := by rw [hds.len, List.length_map, hgl]
      refine ⟨_, rfl, _, rfl, _, _, rfl, rfl, a, ns, _, rfl, (s5.trans s6).seq hS, by omega, by omega, fun v a1 b1 => ?_⟩
      obtain ⟨y, hy1, hm1⟩ := atI_some (xs := nm.map V.str) (i := v % 5 % 4) (by omega) (by rw [List.length_map]; omega)
      obtain ⟨hd, hhd, rfl⟩ := List.mem_map.mp hm1
      refine ⟨_, rfl, .inl ⟨rfl, _, SqL.of h6⟩, _, rfl, _, rfl, _, _, rfl, rfl, (by show (0 : Int) < 5; decide), _, _, rfl, rfl, (by show (0 : Int) < 4; decide), ln, _, _, _, rfl, rfl, SqL.of (s6 _ _ hn5), hy1, ?_⟩
      refine ⟨_, rfl, _, _, rfl, rfl, ⟨by decide, by decide⟩, _, rfl, _, rfl, _, lm, menu, n, rfl, s6 _ _ hm5, by omega, by omega, n0, n1, p6, fun t ps H7 hps hpm s7 p7 ht0 ht => ?_⟩
      refine ⟨_, rfl, _, rfl, _, _, rfl, rfl, a, ns, _, rfl, ((s5.trans s6).trans s7).seq hS, by omega, fun v2 => ⟨_, rfl, fun wz w0 w1 => ⟨line1000 (by show 3 ≤ 1000; decide), fun tt htt => ?_⟩⟩⟩
      have t8 := Same.upd (o := .tup [.str hd, .ref t, .int wz]) htt
      have ntl : tt ≠ l := fun z => by
        have := s7 _ _ h6
        rw [z, this] at htt
        cases htt
      have ntt : t ≠ l := fun z => by
        rw [z, h6] at ht0
        cases ht0
      refine ⟨l, xs, _, rfl, rfl, (s7.trans t8) _ _ h6, Nat.lt_of_lt_of_le (show xs.length < 1000 by omega) (line1000 (Nat.le_refl _)), ?_⟩
      refine ⟨g ++ [(hd, ps, wz)], xs ++ [.ref tt], _, _, rfl, upd_same, ?_, by rw [List.length_append, hgl]; rfl, ?_, ((s6.trans s7).trans t8).put hl, (p7.upd rfl).upd rfl, fun r hr => ?_⟩
      · rw [del_upd, List.map_append]
        refine (hds.same ((s7.trans t8).del l)).append (.cons ?_ .nil)
        refine .tup (show del _ l tt = some _ from ?_) (.cons (.str _) (.cons (.tup (show del _ l t = some _ from ?_) (Dens.strs ps)) (.cons (.int _) .nil)))
        · rw [del_ne ntl]; exact upd_same
        · rw [del_ne ntt]; exact t8 _ _ ht
      · rw [List.all_append, hgo]
        show (true && [((hd, ps, wz) : Rule)].all okRule) = true
        rw [List.all_cons, okRule_of (r := (hd, ps, wz)) (nN hd hhd) (by show ps.length ≤ 6; omega) (fun p hp => hmenu p (hpm p hp)) w0 w1]
        rfl
      · rcases List.mem_append.mp hr with hr | hr
        · exact hnm r hr
        · rw [List.mem_singleton.mp hr]; exact ⟨hhd, hps⟩
    · rintro σ H6 ⟨g, xs, v7, v8, rfl, h6, hds, hgl, hgo, s6, p6, hnm⟩
      refine ⟨_, rfl, q l xs g H6 nm ?_ (s5.trans s6) p6 (s5.free hl) h6 hds n4 hnm⟩
      unfold okGram
      rw [hgo, decide_eq_true (by omega)]
      rfl
end
end FR


set_option linter.all false
set_option maxRecDepth 100000
set_option maxHeartbeats 4000000
namespace FR
open PySem L2
abbrev s__law_read : Stmt := top 45
abbrev s__law_numbers : Stmt := top 47
abbrev s__law_body : Stmt := top 48
abbrev s__law_more : Stmt := top 49
abbrev s__law_steps : Stmt := top 50
abbrev s__law_mores : Stmt := top 51
theorem nd_K14a__law_part__law_sizes : (["_law_part", "_law_sizes"] : List Str).Nodup := by decide +kernel
def spWhole : Sp := fun vs H Q _ => ∃ i : Int, vs = [.int i] ∧ Q (.bl true) H
def spNumbers : Sp := fun vs H Q _ => ∃ (l : Addr) (ks : List Nat), vs = [.ref l] ∧ H l = some (.lst (ks.map nV)) ∧ Q (.bl true) H
def spRead : Sp := fun vs H Q _ => ∃ (l o : Addr) (xs : List V) (r0 : Rule) (rest : List Rule) (ks : List Nat), vs = [.ref l, .ref o] ∧ H l = some (.lst xs) ∧ Dens H xs ((r0 :: rest).map ruleD) ∧ okGram (r0 :: rest) = true ∧ H o = some (.lst (ks.map nV)) ∧ RowsG (r0 :: rest) [r0.1] ks ∧ ks.length ≤ 1000 ∧ Plain H ∧
  ∀ z H', Same H H' → Plain H' → Q (.str z) H'
def spBody : Sp := fun vs H Q _ => ∃ (t p d : Addr) (z : Str) (wz : Int) (ps : List Str) (s : Sz), vs = [.ref t, .ref d] ∧ H t = some (.tup [.str z, .ref p, .int wz]) ∧ H p = some (.tup (ps.map V.str)) ∧ (∀ x ∈ ps, isPartS x = true) ∧ ps.length ≤ 6 ∧ H d = some (.dK (szD s)) ∧ (∀ x ∈ ps, isQ x = false → ∃ v, look s x = some v) ∧ Plain H ∧
  ∀ H', Same H H' → Plain H' → Q (.int (1 + szSum s ps)) H'

def Val (g : Gram) (s : Sz) (k : Nat) (h : Int) : Prop := ∃ r0 rest r o, g = r0 :: rest ∧ g[k]? = some r ∧ WyOk g s r0.1 o ∧ DF g s r0.1 o ∧ look o r.1 = some h
def Bd (g : Gram) (s : Sz) : Prop := ∀ (k : Nat) (r0 : Rule) (rest : List Rule) (r : Rule) (m : Int) (o : Sz) (h : Int), g = r0 :: rest → g[k]? = some r → sizeR s 0 r.2.1 = some m → WyOk g s r0.1 o → DF g s r0.1 o → look o r.1 = some h → h + m ≤ 1000
def spMore : Sp := fun vs H Q _ => ∃ (l d : Addr) (k : Nat) (xs : List V) (g : Gram) (s : Sz), vs = [.ref l, .int (k : Int), .ref d] ∧ H l = some (.lst xs) ∧ Dens H xs (g.map ruleD) ∧ okGram g = true ∧ H d = some (.dK (szD s)) ∧ SzOk g 0 s ∧ Fix g 0 s ∧ Need g s k ∧ Bd g s ∧ Plain H ∧
  ∀ h H', Val g s k h → Same H H' → Plain H' → Q (.int h) H'
theorem inV_nats (k : Nat) : ∀ ks : List Nat, inV (.int (k : Int)) (ks.map nV) = decide (k ∈ ks)
  | [] => by unfold inV; rw [List.map_nil, List.any_nil]; simp
  | h :: hs => by
    have ih := inV_nats k hs
    unfold inV at ih ⊢
    rw [List.map_cons, List.any_cons, ih]
    have e : eqV (nV h) (.int (k : Int)) = decide (h = k) := by
      show ((h : Int) == (k : Int)) = _
      rw [Bool.eq_iff_iff]
      simp
      omega
    rw [e, Bool.eq_iff_iff]
    simp only [Bool.or_eq_true, decide_eq_true_eq, List.mem_cons]
    exact ⟨fun h => h.elim (fun h => .inl h.symm) .inr, fun h => h.elim (fun h => .inl h.symm) .inr⟩
theorem flat_nats (ks : List Nat) : (ks.map nV).all flatV = true := by
  rw [List.all_map, List.all_eq_true]
  intro x _
  rfl
theorem rule_okB {g : Gram} {r : Rule} {i : Nat} (hg : okGram g = true) (er : g[i]? = some r) : okRule r = true := by
  unfold okGram at hg
  rw [Bool.and_eq_true] at hg
  exact List.all_eq_true.mp hg.2 r (List.mem_of_getElem? er)
theorem sign_second {p : Str} (h : isPartS p = true) (hq : isQ p = true) : ∃ c, atI p.cps.toList 1 = some c := by
  unfold isPartS at h
  rw [Bool.or_eq_true] at h
  rcases h with h | h
  · unfold isSignS at h
    rw [Bool.and_eq_true, Bool.and_eq_true] at h
    have h2 : p.cps.size = 2 := eq_of_beq h.1.1
    have h1 : 1 < p.cps.toList.length := by rw [Array.length_toList]; omega
    have e : p.cps.toList[1]? = some p.cps.toList[1] := List.getElem?_eq_getElem h1
    exact ⟨_, atI_nat (j := 1) e⟩
  · rw [isQ_code] at hq
    have hq := of_decide_eq_true hq
    unfold isNameS at h
    rw [Bool.and_eq_true] at h
    exact absurd (List.all_eq_true.mp h.2 39 (List.mem_of_getElem? hq)) (by decide)
theorem rows_cons {g : Gram} {z : Str} {ns : List Str} {w : List Nat} (h : RowsG g (z :: ns) w) : ∃ k row r, w = k :: row ∧ g[k]? = some r ∧ r.1 = z ∧ RowsG g (unQ r.2.1 ++ ns) row := by
  generalize hz : z :: ns = zs at h
  cases h with
  | nil => cases hz
  | @cons ns' k r row e h' =>
    cases hz
    exact ⟨k, row, r, rfl, e, rfl, h'⟩
theorem rows_nil {g : Gram} {w : List Nat} (h : RowsG g [] w) : w = [] := by
  generalize hz : ([] : List Str) = zs at h
  cases h with
  | nil => rfl
  | cons e h' => cases hz
section
variable {P : Program} {w : World} {K : PySem.W.Frag} {mg : Str → Option Value} {base : Heap} {C : Adr}
theorem sc__law_whole : FnScope ["_law_found"] ["_law_found"] (defScope s__law_whole) := ⟨rfl, rfl, rfl, by decide +kernel, rfl, by decide +kernel, by decide +kernel⟩
theorem ok__law_whole {f : Addr} {fd : FuncData} (F : Fun K "_law_whole" "_law_whole" s__law_whole f fd) (T : Txt K mg C) : FnOk P w K mg base CX0 1 f fd ["_law_found"] (spWhole) := by
  refine F.ok sc__law_whole (fun vs H Q E h => ?_) (fun cdv A outer s H vs Q E hr h => ?_)
  · obtain ⟨i, rfl, _⟩ := h
    rfl
  · obtain ⟨i, rfl, q⟩ := h
    refine ⟨_, (pss_one (ps_ret (pe_and (pe_callB (call_isiK K rfl) (by rfl) T.z_isinstance PyProof.Rows.Boot.«isinstance» (pa_cons (pv 0) (pa_cons (pe_bltn (v := .ty "int") (by rfl) T.z_int PyProof.Rows.Boot.«int» rfl) pa_nil))) (pe_one (pe_not (pe_callB (call_isiK K rfl) (by rfl) T.z_isinstance PyProof.Rows.Boot.«isinstance» (pa_cons (pv 0) (pa_cons (pe_bltn (v := .ty "bool") (by rfl) T.z_bool PyProof.Rows.Boot.«bool» rfl) pa_nil)))))))), ?_⟩
    exact ⟨_, rfl, _, _, _, _, _, rfl, .int _, rfl, kit_int (.int i), _, rfl, iteT ⟨_, rfl, _, _, _, _, _, rfl, .int _, rfl, kit_bool (.int i), _, rfl, q⟩⟩
theorem sc__law_numbers : FnScope ["_law_found", "_law_number"] ["_law_found"] (defScope s__law_numbers) := ⟨rfl, rfl, rfl, by decide +kernel, rfl, by decide +kernel, by decide +kernel⟩
theorem ok__law_numbers {f : Addr} {fd : FuncData} (F : Fun K "_law_numbers" "_law_numbers" s__law_numbers f fd) (T : Txt K mg C) (U__law_whole : Used P w K mg CX0 1 "_law_whole" ["_law_found"] (spWhole)) : FnOk P w K mg base CX0 2 f fd ["_law_found"] (spNumbers) := by
  obtain ⟨f__law_whole, fd__law_whole, G__law_whole, m__law_whole, k__law_whole, b__law_whole⟩ := U__law_whole.ok
  refine F.ok sc__law_numbers (fun vs H Q E h => ?_) (fun cdv A outer s H vs Q E hr h => ?_)
  · obtain ⟨l, ks, rfl, _⟩ := h
    rfl
  · obtain ⟨l, ks, rfl, hl, q⟩ := h
    refine ⟨_, (pss_cons (ps_if (pt_not (pt_val (pe_callB (call_isiK K rfl) (by rfl) T.z_isinstance PyProof.Rows.Boot.«isinstance» (pa_cons (pv 0) (pa_cons (pe_bltn (v := .ty "list") (by rfl) T.z_list PyProof.Rows.Boot.«list» rfl) pa_nil))))) (pss_one (ps_ret pe_bl)) pss_nil)
      (pss_cons (ps_for PassesOwn.never rfl (pi_listK K rfl (pv 0)) (pg_name (i := 1) sc__law_numbers.nd rfl (Or.inl rfl)) (pss_one (ps_if (pt_not (pt_val (pe_call (G__law_whole base) (hr.mono (by decide)) (by rfl) m__law_whole k__law_whole b__law_whole .nil pass0 (pa_cons (pv 1) pa_nil)))) (pss_one (ps_ret pe_bl)) pss_nil)))
      (pss_one (ps_ret pe_bl)))), ?_⟩
    refine ⟨_, rfl, _, _, _, _, _, rfl, .lst hl, rfl, kit_list (.lst []), _, rfl, iteF ?_⟩
    refine ⟨_, rfl, l, rfl, ⟨_, SqL.of hl⟩, for_list (K := K) (a := l) (xs := ks.map nV) (fun i σ H2 => H2 = H ∧ ∃ v, σ = [some (.ref l), v]) ⟨rfl, none, rfl⟩ ?_ ?_ ?_⟩
    · rintro i σ H2 _ ⟨rfl, _⟩
      exact SqL.of hl
    · rintro i y σ H2 hi ⟨rfl, v, rfl⟩
      obtain ⟨k, _, rfl⟩ := List.mem_map.mp (List.mem_of_getElem? hi)
      exact ⟨_, rfl, (k : Int), rfl, _, rfl, iteF ⟨rfl, _, rfl⟩⟩
    · rintro σ H2 ⟨rfl, v, rfl⟩
      exact q
theorem sc__law_read : FnScope ["_law_grammar", "_law_row", "_law_waiting", "_law_signs_here", "_law_at", "_law_part", "_law_beneath"] ["_law_grammar", "_law_row"] (defScope s__law_read) := ⟨rfl, rfl, rfl, by decide +kernel, rfl, by decide +kernel, by decide +kernel⟩
theorem ok__law_read {f : Addr} {fd : FuncData} (F : Fun K "_law_read" "_law_read" s__law_read f fd) (T : Txt K mg C) : FnOk P w K mg base CX0 2 f fd ["_law_grammar", "_law_row"] (spRead) := by
  refine F.ok sc__law_read (fun vs H Q E h => ?_) (fun cdv A outer s H vs Q E hr h => ?_)
  · obtain ⟨l, o, xs, r0, rest, ks, rfl, _⟩ := h
    rfl
  · obtain ⟨l, o, xs, r0, rest, ks, rfl, hl, hds, hg, ho, hrow, hkl, hp, q⟩ := h
    have hU := hr.units
    refine ⟨_, (pss_cons (ps_if (pt_cmpR (op_eq_deep K rfl hU) (pv 0) (pe_lst pa_nil) (nomark _)) (pss_one (ps_ret pe_non)) pss_nil)
      (pss_cons (ps_set (i := 2) sc__law_read.nd rfl (Or.inl rfl) (pe_lst (pa_cons (pe_ix (ix_tupK K rfl) (pe_ix (ix_listK K rfl) (pv 0) pe_int (fun _ _ => rfl)) pe_int (fun _ _ => rfl)) pa_nil)))
      (pss_cons (ps_set (i := 3) sc__law_read.nd rfl (Or.inl rfl) pe_str)
      (pss_cons (ps_set (i := 4) sc__law_read.nd rfl (Or.inl rfl) pe_int)
      (pss_cons (ps_while PassesOwn.never (pt_cmpR (op_ne_deep K rfl hU) (pv 2) (pe_lst pa_nil) (nomark _)) (pss_cons (ps_set (i := 5) sc__law_read.nd rfl (Or.inl rfl) (pe_bm0K K rfl PySem.F.plainAttrs_list PySem.F.slot_list_pop PySem.F.type_list_pop mt_pop (pv 2)))
      (pss_one (ps_if (pt_cmpR op_eq (pe_ix ix_str (pv 5) pe_int (fun _ _ => rfl)) pe_str (nomark _)) (pss_one (ps_set (i := 3) sc__law_read.nd rfl (Or.inl rfl) (pe_op op_add_str (pv 3) (pe_ix ix_str (pv 5) pe_int (fun _ _ => rfl))))) (pss_cons (ps_if (PW.pt (pw_or (pt_cmpR op_ge (pv 4) (pe_callB (call_len_seqK K rfl) (by rfl) T.z_len PyProof.Rows.Boot.«len» (pa_cons (pv 1) pa_nil)) (nomark _)) (pw_or (pt_not (pt_chain op_le op_lt pe_int (pe_ix (ix_listK K rfl) (pv 1) (pv 4) (fun _ _ => rfl)) (pe_callB (call_len_seqK K rfl) (by rfl) T.z_len PyProof.Rows.Boot.«len» (pa_cons (pv 0) pa_nil)))) (pw_or1 (pt_cmpR op_ne (pe_ix (ix_tupK K rfl) (pe_ix (ix_listK K rfl) (pv 0) (pe_ix (ix_listK K rfl) (pv 1) (pv 4) (fun _ _ => rfl)) (fun _ _ => rfl)) pe_int (fun _ _ => rfl)) (pv 5) (nomark _)))))) (pss_one (ps_ret pe_non)) pss_nil)
      (pss_cons (ps_for PassesOwn.never rfl (pi_revT K rfl rfl T.z_reversed (pa_cons (pe_ix (ix_tupK K rfl) (pe_ix (ix_listK K rfl) (pv 0) (pe_ix (ix_listK K rfl) (pv 1) (pv 4) (fun _ _ => rfl)) (fun _ _ => rfl)) pe_int (fun _ _ => rfl)) pa_nil)) (pg_name (i := 6) sc__law_read.nd rfl (Or.inl rfl)) (pss_one (ps_expr (pe_bmK K rfl PySem.F.plainAttrs_list PySem.F.slot_list_append PySem.F.type_list_append mt_append (pv 2) (pa_cons (pv 6) pa_nil)))))
      (pss_one (ps_set (i := 4) sc__law_read.nd rfl (Or.inl rfl) (pe_op op_add (pv 4) pe_int)))))))))
      (pss_cons (ps_if (pt_cmpR op_lt (pv 4) (pe_callB (call_len_seqK K rfl) (by rfl) T.z_len PyProof.Rows.Boot.«len» (pa_cons (pv 1) pa_nil)) (nomark _)) (pss_one (ps_ret pe_non)) pss_nil)
      (pss_one (ps_ret (pv 3))))))))), ?_⟩
    have hxl : xs.length = (r0 :: rest).length := by rw [hds.len, List.length_map]
    refine ⟨_, rfl, Nat.zero_le _, fun le hle => ?_⟩
    have s1 := Same.upd (o := .lst []) hle
    refine ⟨gramD (r0 :: rest), .lst [], .lst (.inl (s1 _ _ hl)) (hds.same s1), .lst (.inl upd_same) .nil, ok_gram _, rfl, dep_gram _, _, rfl, iteF ?_⟩
    have p1 : Plain (upd H le (.lst [])) := hp.upd rfl
    revert s1 p1
    generalize upd H le (.lst []) = H1
    intro s1 p1
    obtain ⟨x0, xr, exs⟩ : ∃ x0 xr, xs = x0 :: xr := by
      cases xs with
      | nil => cases hxl
      | cons a b => exact ⟨a, b, rfl⟩
    have h00 : xs[0]? = some x0 := by rw [exs]; rfl
    obtain ⟨r00, t0, p0, er0, ey0, ht0, hpp0⟩ := rule_at hds h00
    cases er0
    have ax0 : atI xs 0 = some (.ref t0) := by rw [← ey0]; exact atI_nat (j := 0) h00
    have hpart0 : isPartS r0.1 = true := name_part (rule_head (rule_okB hg (i := 0) rfl))
    have hq0 : isQ r0.1 = false := by
      rw [isQ_code]
      refine decide_eq_false fun e => ?_
      have h := rule_head (rule_okB hg (i := 0) (r := r0) rfl)
      unfold isNameS at h
      rw [Bool.and_eq_true] at h
      exact absurd (List.all_eq_true.mp h.2 39 (List.mem_of_getElem? e)) (by decide)
    obtain ⟨g, eg⟩ : ∃ g, r0 :: rest = g := ⟨_, rfl⟩
    rw [eg] at hds hg hrow hxl
    refine ⟨_, rfl, l, _, 0, _, rfl, rfl, SqL.of (s1 _ _ hl), ax0, t0, _, 0, _, rfl, rfl, SqT.of (s1 _ _ ht0), rfl, line1000 (by show 1 ≤ 1000; decide), fun lw hlw => ?_⟩
    have hlw0 : H lw = none := s1.free hlw
    have s2 := s1.trans (Same.upd (o := .lst [.str r0.1]) hlw)
    have w2 : upd H1 lw (.lst [.str r0.1]) lw = some (.lst ([r0.1].map V.str)) := upd_same
    have p2 : Plain (upd H1 lw (.lst [.str r0.1])) := p1.upd rfl
    revert s2 w2 p2
    generalize upd H1 lw (.lst [.str r0.1]) = H2
    intro s2 w2 p2
    refine ⟨fun μ σ H3 => ∃ (zs : List Str) (sg : Str) (at_ : Nat) (v5 v6 : Option V), σ = [some (.ref l), some (.ref o), some (.ref lw), some (.str sg), some (.int (at_ : Int)), v5, v6] ∧ H3 lw = some (.lst (zs.map V.str)) ∧ (∀ x ∈ zs, isPartS x = true) ∧ RowsG g (unQ zs.reverse) (ks.drop at_) ∧ at_ ≤ ks.length ∧ sg.length + zs.length ≤ 1 + 6 * at_ ∧ μ = 7 * (ks.length - at_) + zs.length ∧ Same H H3 ∧ Plain H3,
      ⟨_, [r0.1], "", 0, none, none, rfl, w2, fun x hx => by rw [List.mem_singleton.mp hx]; exact hpart0, ?_, Nat.zero_le _, by rw [show (("" : Str)).length = 0 by decide +kernel]; exact (show 0 + 1 ≤ 1 by decide), rfl, s2, p2⟩, ?_⟩
    · rw [List.drop_zero]
      have : unQ [r0.1].reverse = [r0.1] := by
        show unQ [r0.1] = _
        unfold unQ
        rw [List.filter_cons, hq0]
        rfl
      rw [this]
      exact hrow
    rintro μ σ H3 ⟨zs, sg, at_, v5, v6, rfl, w3, hz3, hrow3, hat, hlen3, hμ, s3, p3⟩
    refine ⟨_, rfl, Nat.zero_le _, fun le2 hle2 => ?_⟩
    have s4 := Same.upd (o := .lst []) hle2
    refine ⟨_, _, .lst (.inl (s4 _ _ w3)) (Dens.strs zs), .lst (.inl upd_same) .nil, ok_strs _, rfl, dep_strs _, _, rfl, ?_⟩
    rw [eqD_nil]
    have w4 := s4 _ _ w3
    have s04 := s3.trans s4
    have p4 : Plain (upd H3 le2 (.lst [])) := p3.upd rfl
    revert w4 s04 p4
    generalize upd H3 le2 (.lst []) = H4
    intro w4 s04 p4
    rcases List.eq_nil_or_concat zs with hz | ⟨zs', z, hz⟩
    · subst hz
      rw [decide_eq_true rfl]
      refine iteF ?_
      have hend : ks.length ≤ at_ := by
        have := rows_nil hrow3
        exact List.drop_eq_nil_iff.mp this
      refine ⟨_, rfl, _, rfl, o, _, rfl, .inl (SqL.of (s04 _ _ ho)), _, _, rfl, rfl, _, rfl, ?_⟩
      rw [decide_eq_false (by rw [List.length_map]; omega)]
      exact iteF ⟨_, rfl, q sg H4 s04 p4⟩
    rw [List.concat_eq_append] at hz
    subst hz
    rw [decide_eq_false (by simp)]
    refine iteT ⟨_, fun _ _ h => h, ?_⟩
    have elast : ((zs' ++ [z]).map V.str)[((zs' ++ [z]).map V.str).length - 1]? = some (.str z) := by
      rw [List.map_append, List.length_append]
      show (_ ++ [V.str z])[_ + 1 - 1]? = _
      rw [Nat.add_sub_cancel, List.getElem?_append_right (Nat.le_refl _), Nat.sub_self]
      rfl
    have edrop : ((zs' ++ [z]).map V.str).dropLast = zs'.map V.str := by rw [List.map_append]; exact List.dropLast_concat
    refine ⟨_, rfl, .inl ⟨rfl, _, SqL.of w4⟩, lw, _, _, rfl, rfl, w4, elast, ?_⟩
    rw [edrop]
    have s05 : Same H (upd H4 lw (.lst (zs'.map V.str))) := s04.put hlw0
    have w5 : upd H4 lw (.lst (zs'.map V.str)) lw = some (.lst (zs'.map V.str)) := upd_same
    have p5 : Plain (upd H4 lw (.lst (zs'.map V.str))) := p4.upd rfl
    revert s05 w5 p5
    generalize upd H4 lw (.lst (zs'.map V.str)) = H5
    intro s05 w5 p5
    have hzp := hz3 z (List.mem_append_right _ (List.mem_singleton.mpr rfl))
    have hzs' : ∀ x ∈ zs', isPartS x = true := fun x hx => hz3 x (List.mem_append_left _ hx)
    rw [List.length_append] at hlen3 hμ
    have hlen3 : sg.length + (zs'.length + 1) ≤ 1 + 6 * at_ := hlen3
    have hμ : μ = 7 * (ks.length - at_) + (zs'.length + 1) := hμ
    rw [List.reverse_append] at hrow3
    have hrow3 : RowsG g (unQ (z :: zs'.reverse)) (ks.drop at_) := hrow3
    obtain ⟨c, hc, hlz, hdec⟩ := part_first hzp
    refine ⟨_, rfl, z, 0, c, rfl, rfl, line1000 (by omega), hc, rfl, _, rfl, ?_⟩
    rw [hdec]
    by_cases hq : isQ z = true
    · rw [hq]
      obtain ⟨c2, hc2⟩ := sign_second hzp hq
      have eu : unQ (z :: zs'.reverse) = unQ zs'.reverse := by unfold unQ; rw [List.filter_cons, hq]; rfl
      rw [eu] at hrow3
      refine ⟨_, rfl, _, rfl, z, 1, c2, rfl, rfl, line1000 (by omega), hc2, sg, _, rfl, rfl, by rw [sizeLine_eq]; show sg.length + 1 ≤ _; omega, ?_⟩
      refine ⟨_, ?_, zs', sg ++ ⟨#[c2]⟩, at_, _, _, rfl, w5, hzs', hrow3, hat, by rw [slen]; show sg.length + 1 + _ ≤ _; omega, rfl, s05, p5⟩
      rw [hμ]
      omega
    · have hq' : isQ z = false := Bool.eq_false_iff.mpr hq
      rw [hq']
      have eu : unQ (z :: zs'.reverse) = z :: unQ zs'.reverse := by unfold unQ; rw [List.filter_cons, hq']; rfl
      rw [eu] at hrow3
      obtain ⟨k, row', r, e1, er, hrz, hrow'⟩ := rows_cons hrow3
      have hatl : at_ < ks.length := by
        have := congrArg List.length e1
        rw [List.length_drop, List.length_cons] at this
        omega
      have ek : ks[at_]? = some k ∧ row' = ks.drop (at_ + 1) := by
        rw [List.drop_eq_getElem_cons hatl] at e1
        cases e1
        exact ⟨List.getElem?_eq_getElem hatl, rfl⟩
      have ao : atI (ks.map nV) (at_ : Int) = some (.int (k : Int)) := by
        refine atI_nat (j := at_) ?_
        rw [List.getElem?_map, ek.1]
        rfl
      have hok := rule_okB hg er
      have hkx : k < xs.length := by rw [hxl]; exact (List.getElem?_eq_some_iff.mp er).1
      have hix : xs[k]? = some xs[k] := List.getElem?_eq_getElem hkx
      obtain ⟨r', tt, pp, er', ey', ht1, hpp⟩ := rule_at hds hix
      rw [er] at er'
      cases er'
      have ax : atI xs (k : Int) = some (.ref tt) := by rw [← ey']; exact atI_nat hix
      have sqo : SqL K H5 o (ks.map nV) := SqL.of (s05 _ _ ho)
      have sql : SqL K H5 l xs := SqL.of (s05 _ _ hl)
      refine ⟨_, rfl, _, rfl, o, _, rfl, .inl sqo, _, _, rfl, rfl, _, rfl, ?_⟩
      rw [decide_eq_false (by rw [List.length_map]; omega)]
      refine iteF ⟨_, rfl, _, rfl, o, _, _, _, rfl, rfl, sqo, ao, _, _, rfl, rfl, _, rfl, ?_⟩
      rw [decide_eq_true (by omega)]
      refine iteT ⟨_, rfl, l, _, rfl, .inl sql, _, _, rfl, rfl, _, rfl, ?_⟩
      rw [decide_eq_true (by omega)]
      refine iteF ⟨_, rfl, _, rfl, _, rfl, o, _, _, _, rfl, rfl, sqo, ao, l, _, _, _, rfl, rfl, sql, ax, tt, _, 0, _, rfl, rfl, SqT.of (s05 _ _ ht1), rfl, _, rfl, rfl, _, rfl, ?_⟩
      rw [decS, decide_eq_true hrz]
      refine iteF ?_
      refine ⟨_, rfl, _, rfl, _, rfl, o, _, _, _, rfl, rfl, sqo, ao, l, _, _, _, rfl, rfl, sql, ax, tt, _, 1, _, rfl, rfl, SqT.of (s05 _ _ ht1), rfl, pp, _, rfl, SqT.of (s05 _ _ hpp), ?_⟩
      have hr6 := (rule_parts hok).1
      refine for_revT (K := K) (a := pp) (xs := r.2.1.map V.str) (fun i σ H6 => ∃ v6, σ = [some (.ref l), some (.ref o), some (.ref lw), some (.str sg), some (.int (at_ : Int)), some (.str z), v6] ∧ H6 lw = some (.lst ((zs' ++ r.2.1.reverse.take i).map V.str)) ∧ Same H H6 ∧ Plain H6)
        ⟨v6, rfl, by rw [List.take_zero, List.append_nil]; exact w5, s05, p5⟩ ?_ ?_ ?_
      · rintro i σ H6 _ ⟨_, rfl, _, s6, _⟩
        exact SqT.of (s6 _ _ hpp)
      · rintro i y σ H6 hi ⟨v6, rfl, w6, s6, p6⟩
        rw [← List.map_reverse, List.getElem?_map] at hi
        cases ex : r.2.1.reverse[i]? with
        | none => rw [ex] at hi; cases hi
        | some x =>
          rw [ex] at hi
          cases hi
          have et : r.2.1.reverse.take (i + 1) = r.2.1.reverse.take i ++ [x] := by rw [List.take_add_one, ex]; rfl
          refine ⟨_, rfl, .inl ⟨rfl, _, SqL.of w6⟩, _, rfl, lw, _, _, rfl, rfl, w6, by rw [List.length_map, List.length_append, List.length_take, List.length_reverse, sizeLine_eq]; omega, _, rfl, ?_, s6.put hlw0, p6.upd rfl⟩
          rw [upd_same, et, ← List.append_assoc, List.map_append (l₂ := [x])]
          rfl
      · rintro σ H6 ⟨v6, rfl, w6, s6, p6⟩
        have eall : r.2.1.reverse.take (r.2.1.map V.str).length = r.2.1.reverse := by rw [List.length_map, ← List.length_reverse (as := r.2.1), List.take_length]
        rw [eall] at w6
        refine ⟨_, rfl, _, _, rfl, rfl, ?_⟩
        have ei : (at_ : Int) + 1 = ((at_ + 1 : Nat) : Int) := by omega
        refine ⟨_, ?_, zs' ++ r.2.1.reverse, sg, at_ + 1, _, _, by rw [← ei]; rfl, w6, fun x hx => ?_, ?_, by omega, ?_, rfl, s6, p6⟩
        · rw [hμ, List.length_append, List.length_reverse]
          omega
        · rcases List.mem_append.mp hx with hx | hx
          · exact hzs' x hx
          · exact (rule_parts hok).2 x (List.mem_reverse.mp hx)
        · rw [List.reverse_append, List.reverse_reverse, unQ_app, ← ek.2]
          exact hrow'
        · rw [List.length_append, List.length_reverse]
          omega
theorem sc__law_body : FnScope ["_law_rule", "_law_sizes"] ["_law_rule", "_law_sizes"] (defScope s__law_body) := ⟨rfl, rfl, rfl, by decide +kernel, rfl, by decide +kernel, by decide +kernel⟩
theorem ok__law_body {f : Addr} {fd : FuncData} (F : Fun K "_law_body" "_law_body" s__law_body f fd) (T : Txt K mg C) : FnOk P w K mg base CX0 2 f fd ["_law_rule", "_law_sizes"] (spBody) := by
  refine F.ok sc__law_body (fun vs H Q E h => ?_) (fun cdv A outer s H vs Q E hr h => ?_)
  · obtain ⟨t, p, d, z, wz, ps, s, rfl, _⟩ := h
    rfl
  · obtain ⟨t, p, d, z, wz, ps, s, rfl, ht, hpp, hps, h6, hd, hsz, hp, q⟩ := h
    have hu := hu_of hr
    refine ⟨_, (pss_one (ps_ret (pe_op op_add pe_int (pe_callB (call_sum rfl) (by rfl) T.z_sum PyProof.Rows.Boot.«sum» (pa_cons (pe_comp (N := ["_law_part", "_law_sizes"]) (ρ := [none, some 1]) rfl (CompScope.closes ["_law_rule", "_law_sizes"] (defScope s__law_body).names rfl rfl rfl rfl (by decide +kernel) (by decide +kernel) (fun x h => cell_has h) (by decide +kernel) rfl (by decide +kernel)) (pi_tupK K rfl (pe_ix (ix_tupK K rfl) (pv 0) pe_int (fun _ _ => rfl))) (fun _ _ _ _ _ => (pg_name (i := 0) nd_K14a__law_part__law_sizes rfl (Or.inl rfl) (.inr rfl))) (fun _ _ _ _ _ => (pts_one (pt_cmpR op_ne (pe_ix ix_str (pv 0) pe_int (fun _ _ => rfl)) pe_str (nomark _)))) (fun _ _ _ _ _ => (pe_dget hu (pv 1) (pv 0) (fun _ _ => rfl)))) pa_nil))))), ?_⟩
    refine ⟨_, rfl, t, _, 1, _, rfl, rfl, SqT.of ht, rfl, p, rfl, ⟨_, SqT.of hpp⟩, fun ln hln => ?_⟩
    have hJ2 := (gives_tup (SqT.of (K := K) hpp)).g
    rw [List.length_map] at hJ2
    refine comp_fm ps (fun x => if isQ x = true then none else some (.int ((look s x).getD 0))) hJ2 hp hln (line1000 (Nat.le_trans h6 (by decide))) (fun τ' => ∃ v, τ' = [v, some (.ref d)]) ⟨_, rfl⟩ ?_ ?_
    · rintro τ' k x y H' Q1 Q2 ⟨v, rfl⟩ hx hit hs hp' hQ1 hQ2
      rw [List.getElem?_map, hx] at hit
      cases hit
      obtain ⟨c, hc, hlen, hdec⟩ := part_first (hps x (List.mem_of_getElem? hx))
      refine ⟨_, rfl, x, 0, c, rfl, rfl, line1000 (by omega), hc, rfl, _, rfl, ?_⟩
      rw [hdec]
      by_cases hq : isQ x = true
      · rw [hq]
        exact hQ2 _ _ ⟨_, rfl⟩ (Same.refl _) hp' (by rw [if_pos hq])
      · rw [Bool.eq_false_iff.mpr hq]
        obtain ⟨v, hlk⟩ := hsz x (List.mem_of_getElem? hx) (Bool.eq_false_iff.mpr hq)
        exact ⟨_, rfl, _, rfl, d, .int v, rfl, dget_sz (hs _ _ hd) hlk, hQ1 _ _ _ ⟨_, rfl⟩ (Same.refl _) hp' (by rw [if_neg hq, hlk]; rfl)⟩
    intro H5 s5 p5 h5
    have ei : ps.filterMap (fun x => if isQ x = true then none else some (V.int ((look s x).getD 0))) = ((unQ ps).map fun p => (look s p).getD 0).map V.int := by
      unfold unQ
      rw [List.map_map, ← List.filterMap_eq_map, List.filterMap_filter]
      refine congrArg (fun f => List.filterMap f ps) (funext fun x => ?_)
      cases isQ x <;> rfl
    rw [ei] at h5
    exact ⟨ln, _, rfl, SqL.of h5, _, _, rfl, rfl, q H5 s5 p5⟩
theorem sc__law_more : FnScope ["_law_grammar", "_law_number", "_law_sizes", "_law_row"] ["_law_grammar", "_law_number", "_law_sizes"] (defScope s__law_more) := ⟨rfl, rfl, rfl, by decide +kernel, rfl, by decide +kernel, by decide +kernel⟩
theorem ok__law_more {f : Addr} {fd : FuncData} (F : Fun K "_law_more" "_law_more" s__law_more f fd) (T : Txt K mg C) (U_row_with : Used P w K mg (CXo P w) 8 "row_with" ["grammar", "number"] (spRowWith)) (U__law_body : Used P w K mg CX0 2 "_law_body" ["_law_rule", "_law_sizes"] (spBody)) (U__law_numbers : Used P w K mg CX0 2 "_law_numbers" ["_law_found"] (spNumbers)) (U__law_read : Used P w K mg CX0 2 "_law_read" ["_law_grammar", "_law_row"] (spRead)) : FnOk P w K mg base CX0 9 f fd ["_law_grammar", "_law_number", "_law_sizes"] (spMore) := by
  obtain ⟨f_row_with, fd_row_with, G_row_with, m_row_with, k_row_with, b_row_with⟩ := U_row_with.ok
  obtain ⟨f__law_body, fd__law_body, G__law_body, m__law_body, k__law_body, b__law_body⟩ := U__law_body.ok
  obtain ⟨f__law_numbers, fd__law_numbers, G__law_numbers, m__law_numbers, k__law_numbers, b__law_numbers⟩ := U__law_numbers.ok
  obtain ⟨f__law_read, fd__law_read, G__law_read, m__law_read, k__law_read, b__law_read⟩ := U__law_read.ok
  refine F.ok sc__law_more (fun vs H Q E h => ?_) (fun cdv A outer s H vs Q E hr h => ?_)
  · obtain ⟨l, d, k, xs, g, s, rfl, _⟩ := h
    rfl
  · obtain ⟨l, d, k, xs, g, s, rfl, hl, hds, hg, hd, hs, hfx, hnd, hbd, hp, q⟩ := h
    refine ⟨_, (pss_cons (ps_set (i := 3) sc__law_more.nd rfl (Or.inl rfl) (pe_call (G_row_with base) (hr.mono (by decide)) (by rfl) m_row_with k_row_with b_row_with .nil passX (pa_cons (pv 0) (pa_cons (pv 1) pa_nil))))
      (pss_cons (ps_if (PW.pt (pw_or (pt_not (pt_val (pe_call (G__law_numbers base) (hr.mono (by decide)) (by rfl) m__law_numbers k__law_numbers b__law_numbers .nil pass0 (pa_cons (pv 3) pa_nil)))) (pw_or (pt_cmpR (op_notIn_seqK K rfl) (pv 1) (pv 3) (by with_unfolding_all rfl)) (pw_or1 (pt_cmpR op_isN (pe_call (G__law_read base) (hr.mono (by decide)) (by rfl) m__law_read k__law_read b__law_read .nil pass0 (pa_cons (pv 0) (pa_cons (pv 3) pa_nil))) pe_non (nomark _)))))) (pss_one (ps_ret pe_non)) pss_nil)
      (pss_one (ps_ret (pe_op op_sub (pe_callB (call_len_seqK K rfl) (by rfl) T.z_len PyProof.Rows.Boot.«len» (pa_cons (pv 3) pa_nil)) (pe_call (G__law_body base) (hr.mono (by decide)) (by rfl) m__law_body k__law_body b__law_body .nil pass0 (pa_cons (pe_ix (ix_listK K rfl) (pv 0) (pv 1) (fun _ _ => rfl)) (pa_cons (pv 2) pa_nil)))))))), ?_⟩
    have hxl : xs.length = g.length := by rw [hds.len, List.length_map]
    refine ⟨_, rfl, _, rfl, .ref l, k, g, s, rfl, .lst (.inl hl) hds, hg, hs, hfx, hnd, fun r0 rest r m o h => hbd k r0 rest r m o h, hp, fun lr ks r0 rest r m o h H1 eg er em wy df eh hrow hkm hlen s1 p1 hlr0 hlr => ?_⟩
    have hle := hbd k r0 rest r m o h eg er em wy df eh
    have hkl : ks.length ≤ 1000 := by omega
    refine ⟨_, rfl, lr, ks, rfl, hlr, _, rfl, iteF ?_⟩
    refine ⟨_, rfl, _, rfl, lr, _, rfl, .inl (SqL.of hlr), rfl, flat_nats _, !inV (.int (k : Int)) (ks.map nV), rfl, ?_⟩
    rw [inV_nats, decide_eq_true hkm]
    refine iteF ⟨_, rfl, _, rfl, l, lr, xs, r0, rest, ks, rfl, s1 _ _ hl, by rw [← eg]; exact hds.same s1, by rw [← eg]; exact hg, hlr, by rw [← eg]; exact hrow, hkl, p1, fun z H2 s2 p2 => ⟨rfl, _, rfl, iteF ?_⟩⟩
    have s12 := s1.trans s2
    have hok := rule_okB hg er
    have hkx : k < xs.length := by rw [hxl]; exact (List.getElem?_eq_some_iff.mp er).1
    have hix : xs[k]? = some xs[k] := List.getElem?_eq_getElem hkx
    obtain ⟨r', tt, pp, er', ey', ht1, hpp⟩ := rule_at hds hix
    rw [er] at er'
    cases er'
    have ax : atI xs (k : Int) = some (.ref tt) := by rw [← ey']; exact atI_nat hix
    have hm := sizeR_sum hs.pos em
    refine ⟨_, rfl, lr, _, rfl, .inl (SqL.of (s2 _ _ hlr)), _, rfl, _, rfl, l, _, _, _, rfl, rfl, SqL.of (s12 _ _ hl), ax, _, rfl, tt, pp, d, r.1, r.2.2, r.2.1, s, rfl, s12 _ _ ht1, s12 _ _ hpp, (rule_parts hok).2, (rule_parts hok).1, s12 _ _ hd, fun x hx hq => ?_, p2, fun H3 s3 p3 => ⟨_, _, rfl, rfl, ?_⟩⟩
    · obtain ⟨v, ev, _⟩ := (sizeG_part hs.pos em).2 x hx hq
      exact ⟨v, ev⟩
    · have e1 : (((ks.map nV).length : Nat) : Int) - (1 + szSum s r.2.1) = h := by rw [List.length_map]; omega
      show Q (V.int ((((ks.map nV).length : Nat) : Int) - (1 + szSum s r.2.1))) H3
      rw [e1]
      exact q h H3 ⟨r0, rest, r, o, eg, er, wy, df, eh⟩ (s12.trans s3) p3
end
end FR


set_option linter.all false
set_option maxRecDepth 100000
set_option maxHeartbeats 4000000
namespace FR
open PySem L2

def spMores : Sp := fun vs H Q _ => ∃ (l f d : Addr) (xs : List V) (g : Gram) (s : Sz) (ks : List Nat), vs = [.ref l, .ref f, .ref d] ∧ H l = some (.lst xs) ∧ Dens H xs (g.map ruleD) ∧ okGram g = true ∧ H f = some (.lst (ks.map nV)) ∧ ks.Pairwise (· < ·) ∧ H d = some (.dK (szD s)) ∧ SzOk g 0 s ∧ Fix g 0 s ∧ (∀ k ∈ ks, Need g s k) ∧ Bd g s ∧ Plain H ∧
  ∀ dM (fs : List (Nat × Int)) H', fs.map (·.1) = ks → (∀ p ∈ fs, Val g s p.1 p.2) → Same H H' → Plain H' → H dM = none → H' dM = some (.dK (fsD fs)) → Q (.ref dM) H'
def spSteps : Sp := fun vs H Q _ => ∃ (l f d dM : Addr) (k : Nat) (xs : List V) (g : Gram) (s : Sz) (ks : List Nat) (fs : List (Nat × Int)), vs = [.ref l, .ref f, .ref d, .ref dM, .int (k : Int)] ∧ H l = some (.lst xs) ∧ Dens H xs (g.map ruleD) ∧ okGram g = true ∧ H f = some (.lst (ks.map nV)) ∧ H d = some (.dK (szD s)) ∧ SzOk g 0 s ∧ Fix g 0 s ∧ (∀ k ∈ ks, Need g s k) ∧ H dM = some (.dK (fsD fs)) ∧ fs.map (·.1) = ks ∧ (∀ p ∈ fs, Val g s p.1 p.2) ∧ k ∈ ks ∧ Plain H ∧
  ∀ H', Same H H' → Plain H' → Q (.bl true) H'
theorem take_out {ks : List Nat} (srt : ks.Pairwise (· < ·)) {i k : Nat} (h : ks[i]? = some k) : ¬ k ∈ ks.take i := fun m => by
  obtain ⟨hi, ek⟩ := List.getElem?_eq_some_iff.mp h
  obtain ⟨j, hj, e⟩ := List.mem_take_iff_getElem.mp m
  have hji : j < i := by omega
  have := List.pairwise_iff_getElem.mp srt j i (by omega) hi hji
  omega
theorem put_fs {fs : List (Nat × Int)} {k : Nat} {h : Int} (hk : ¬ k ∈ fs.map (·.1)) : putK (fsD fs) (Sum.inl (k : Int)) (.int h) = fsD (fs ++ [(k, h)]) := by
  rw [putK_snoc _ (fsD_keys fs hk)]
  unfold fsD
  rw [List.map_append]
  rfl
theorem dget_fs {H : Hp} {d : Addr} {fs : List (Nat × Int)} {k : Nat} (hd : H d = some (.dK (fsD fs))) (hk : k ∈ fs.map (·.1)) : ∃ v, (k, v) ∈ fs ∧ DGet H d (.int (k : Int)) (some (.int v)) := by
  obtain ⟨v, hv, e⟩ := valV_fs hk
  refine ⟨v, hv, ?_⟩
  have := DGet.k (k := Sum.inl (k : Int)) hd
  rw [e] at this
  exact this
theorem name_noQ {z : Str} (h : isNameS z = true) : isQ z = false := by
  rw [isQ_code]
  refine decide_eq_false fun e => ?_
  unfold isNameS at h
  rw [Bool.and_eq_true] at h
  exact absurd (List.all_eq_true.mp h.2 39 (List.mem_of_getElem? e)) (by decide)
theorem need_lt {g : Gram} {s : Sz} {k : Nat} (h : Need g s k) : k < g.length := by
  obtain ⟨r, _, _, _, er, _⟩ := h
  exact (List.getElem?_eq_some_iff.mp er).1
theorem ks_60 {g : Gram} {s : Sz} {ks : List Nat} (hg : okGram g = true) (srt : ks.Pairwise (· < ·)) (h : ∀ k ∈ ks, Need g s k) : ks.length ≤ 60 := by
  have h1 := nodup_lenN (xs := ks) (ys := List.range g.length) (srt.imp fun h => Nat.ne_of_lt h) fun k hk => List.mem_range.mpr (need_lt (h k hk))
  rw [List.length_range] at h1
  have := gram_60 hg
  omega

theorem rule_num {H : Hp} {xs : List V} {g : Gram} (hds : Dens H xs (g.map ruleD)) {k : Nat} {r : Rule} (er : g[k]? = some r) : ∃ t p, atI xs (k : Int) = some (.ref t) ∧ H t = some (.tup [.str r.1, .ref p, .int r.2.2]) ∧ H p = some (.tup (r.2.1.map V.str)) := by
  have hxl : xs.length = g.length := by rw [hds.len, List.length_map]
  have hkx : k < xs.length := by rw [hxl]; exact (List.getElem?_eq_some_iff.mp er).1
  have hix : xs[k]? = some xs[k] := List.getElem?_eq_getElem hkx
  obtain ⟨r', t, p, er', ey', ht, hpp⟩ := rule_at hds hix
  rw [er] at er'
  cases er'
  exact ⟨t, p, by rw [← ey']; exact atI_nat hix, ht, hpp⟩
section
variable {P : Program} {w : World} {K : PySem.W.Frag} {mg : Str → Option Value} {base : Heap} {C : Adr}
theorem sc__law_mores : FnScope ["_law_grammar", "_law_some", "_law_sizes", "_law_more_here", "_law_number"] ["_law_grammar", "_law_some", "_law_sizes"] (defScope s__law_mores) := ⟨rfl, rfl, rfl, by decide +kernel, rfl, by decide +kernel, by decide +kernel⟩
theorem ok__law_mores {f : Addr} {fd : FuncData} (F : Fun K "_law_mores" "_law_mores" s__law_mores f fd) (T : Txt K mg C) (U__law_more : Used P w K mg CX0 9 "_law_more" ["_law_grammar", "_law_number", "_law_sizes"] (spMore)) : FnOk P w K mg base CX0 10 f fd ["_law_grammar", "_law_some", "_law_sizes"] (spMores) := by
  obtain ⟨f__law_more, fd__law_more, G__law_more, m__law_more, k__law_more, b__law_more⟩ := U__law_more.ok
  refine F.ok sc__law_mores (fun vs H Q E h => ?_) (fun cdv A outer s H vs Q E hr h => ?_)
  · obtain ⟨l, f, d, xs, g, s, ks, rfl, _⟩ := h
    rfl
  · obtain ⟨l, f, d, xs, g, s, ks, rfl, hl, hds, hg, hf, srt, hd, hs, hfx, hnd, hbd, hp, q⟩ := h
    have hu := hu_of hr
    have hU := hr.units
    refine ⟨_, (pss_cons (ps_set (i := 3) sc__law_mores.nd rfl (Or.inl rfl) pe_dnewK)
      (pss_cons (ps_for PassesOwn.never rfl (pi_listK K rfl (pv 1)) (pg_name (i := 4) sc__law_mores.nd rfl (Or.inl rfl)) (pss_cons (ps_dput hu (pv 3) (pv 4) (pe_call (G__law_more base) (hr.mono (by decide)) (by rfl) m__law_more k__law_more b__law_more .nil pass0 (pa_cons (pv 0) (pa_cons (pv 4) (pa_cons (pv 2) pa_nil)))) rfl)
      (pss_cons (ps_if (PW.pt (pw_or (pt_cmpR op_isN (pe_dget hu (pv 3) (pv 4) (fun _ _ => rfl)) pe_non (nomark _)) (pw_or1 (pt_cmpR op_lt (pe_dget hu (pv 3) (pv 4) (fun _ _ => rfl)) pe_int (nomark _))))) (pss_one (ps_ret pe_non)) pss_nil)
      (pss_one (ps_if (PW.pt (pw_and (pt_cmpR op_eq (pe_ix (ix_tupK K rfl) (pe_ix (ix_listK K rfl) (pv 0) (pv 4) (fun _ _ => rfl)) pe_int (fun _ _ => rfl)) (pe_ix (ix_tupK K rfl) (pe_ix (ix_listK K rfl) (pv 0) pe_int (fun _ _ => rfl)) pe_int (fun _ _ => rfl)) (nomark _)) (pw_and1 (pt_cmpR (op_ne_deep K rfl hU) (pe_dget hu (pv 3) (pv 4) (fun _ _ => rfl)) pe_int (nomark _))))) (pss_one (ps_ret pe_non)) pss_nil)))))
      (pss_one (ps_ret (pv 3))))), ?_⟩
    intro dM hdM
    have s1 := Same.upd (o := .dK []) hdM
    have hk60 := ks_60 hg srt hnd
    refine ⟨_, rfl, f, rfl, ⟨_, SqL.of (s1 _ _ hf)⟩, for_list (K := K) (a := f) (xs := ks.map nV) (fun i σ H2 => ∃ (fs : List (Nat × Int)) (v4 : Option V), σ = [some (.ref l), some (.ref f), some (.ref d), some (.ref dM), v4] ∧ H2 dM = some (.dK (fsD fs)) ∧ fs.map (·.1) = ks.take i ∧ (∀ p ∈ fs, Val g s p.1 p.2) ∧ Same H H2 ∧ Plain H2) ⟨[], none, rfl, upd_same, rfl, (fun p hp => nomatch hp), s1, hp.upd rfl⟩ ?_ ?_ ?_⟩
    · rintro i σ H2 _ ⟨_, _, rfl, _, _, _, s2, _⟩
      exact SqL.of (s2 _ _ hf)
    · rintro i y σ H2 hi ⟨fs, v4, rfl, m2, hfs, hval, s2, p2⟩
      rw [List.getElem?_map] at hi
      cases ek : ks[i]? with
      | none => rw [ek] at hi; cases hi
      | some k =>
        rw [ek] at hi
        cases hi
        have hnk := hnd k (List.mem_of_getElem? ek)
        refine ⟨_, rfl, _, rfl, _, rfl, l, d, k, xs, g, s, rfl, s2 _ _ hl, hds.same s2, hg, s2 _ _ hd, hs, hfx, hnk, hbd, p2, fun h H3 val s3 p3 => ?_⟩
        have notin : ¬ k ∈ fs.map (·.1) := by rw [hfs]; exact take_out srt ek
        have hfl : fs.length ≤ 60 := by
          have := congrArg List.length hfs
          rw [List.length_map, List.length_take] at this
          omega
        have len : (fsD fs).length < sizeLine := by
          unfold fsD
          rw [List.length_map]
          exact Nat.lt_of_lt_of_le (show _ < 1000 by omega) (line1000 (Nat.le_refl _))
        have put := DPut.k (k := Sum.inl (k : Int)) (v := .int h) (s3 _ _ m2) len
        have s4 : Same H (upd H3 dM (.dK (putK (fsD fs) (Sum.inl (k : Int)) (.int h)))) := (s2.trans s3).put hdM
        have p4 : Plain (upd H3 dM (.dK (putK (fsD fs) (Sum.inl (k : Int)) (.int h)))) := p3.upd rfl
        have m4 : upd H3 dM (.dK (putK (fsD fs) (Sum.inl (k : Int)) (.int h))) dM = some (.dK (putK (fsD fs) (Sum.inl (k : Int)) (.int h))) := upd_same
        refine ⟨_, rfl, _, rfl, dM, _, rfl, put, ?_⟩
        revert s4 p4 m4
        generalize upd H3 dM (.dK (putK (fsD fs) (Sum.inl (k : Int)) (.int h))) = H4
        intro s4 p4 m4
        have dg : DGet H4 dM (.int (k : Int)) (some (.int h)) := by
          have := DGet.k (k := Sum.inl (k : Int)) m4
          rw [valV_put_same] at this
          exact this
        rw [put_fs notin] at m4
        have et : ks.take (i + 1) = ks.take i ++ [k] := by rw [List.take_add_one, ek]; rfl
        have efs : (fs ++ [(k, h)]).map (·.1) = ks.take (i + 1) := by rw [List.map_append, hfs, et]; rfl
        have hval' : ∀ p ∈ fs ++ [(k, h)], Val g s p.1 p.2 := fun p hp => by
          rcases List.mem_append.mp hp with hp | hp
          · exact hval p hp
          · rw [List.mem_singleton.mp hp]
            exact val
        obtain ⟨r0, rest, r, o, eg, er, wy, df, eh⟩ := val
        have hnn := wy.nn _ _ eh
        obtain ⟨t0, q0, ax0, ht0, _⟩ := rule_num hds (k := 0) (r := r0) (by rw [eg]; rfl)
        obtain ⟨t, q', ax, ht, _⟩ := rule_num hds er
        refine ⟨_, rfl, _, rfl, dM, .int h, rfl, dg, rfl, _, rfl, iteF ⟨_, rfl, _, rfl, dM, .int h, rfl, dg, h, 0, rfl, rfl, _, rfl, ?_⟩⟩
        rw [decide_eq_false (by omega)]
        have sql : SqL K H4 l xs := SqL.of (s4 _ _ hl)
        refine iteF ⟨_, rfl, _, rfl, l, _, _, _, rfl, rfl, sql, ax, t, _, 0, _, rfl, rfl, SqT.of (s4 _ _ ht), rfl, _, rfl, l, _, 0, _, rfl, rfl, sql, ax0, t0, _, 0, _, rfl, rfl, SqT.of (s4 _ _ ht0), rfl, rfl, _, rfl, ?_⟩
        rw [decS]
        by_cases e : r.1 = r0.1
        · rw [decide_eq_true e]
          rw [e, wy.has] at eh
          cases eh
          exact ⟨_, rfl, _, rfl, dM, .int 0, rfl, dg, .int 0, .int 0, by unfold Den; rfl, by unfold Den; rfl, rfl, rfl, Nat.zero_le _, _, rfl, iteF ⟨_, _, rfl, m4, efs, hval', s4, p4⟩⟩
        · rw [decide_eq_false e]
          exact iteF ⟨_, _, rfl, m4, efs, hval', s4, p4⟩
    · rintro σ H2 ⟨fs, v4, rfl, m2, hfs, hval, s2, p2⟩
      rw [List.length_map, List.take_length] at hfs
      exact ⟨_, rfl, q dM fs H2 hfs hval s2 p2 hdM m2⟩
theorem sc__law_steps : FnScope ["_law_grammar", "_law_some", "_law_sizes", "_law_more_here", "_law_number", "_law_here", "_law_part", "_law_other"] ["_law_grammar", "_law_some", "_law_sizes", "_law_more_here", "_law_number"] (defScope s__law_steps) := ⟨rfl, rfl, rfl, by decide +kernel, rfl, by decide +kernel, by decide +kernel⟩
theorem ok__law_steps {f : Addr} {fd : FuncData} (F : Fun K "_law_steps" "_law_steps" s__law_steps f fd) (T : Txt K mg C) (U__law_body : Used P w K mg CX0 2 "_law_body" ["_law_rule", "_law_sizes"] (spBody)) : FnOk P w K mg base CX0 3 f fd ["_law_grammar", "_law_some", "_law_sizes", "_law_more_here", "_law_number"] (spSteps) := by
  obtain ⟨f__law_body, fd__law_body, G__law_body, m__law_body, k__law_body, b__law_body⟩ := U__law_body.ok
  refine F.ok sc__law_steps (fun vs H Q E h => ?_) (fun cdv A outer s H vs Q E hr h => ?_)
  · obtain ⟨l, f, d, dM, k, xs, g, s, ks, fs, rfl, _⟩ := h
    rfl
  · obtain ⟨l, f, d, dM, k, xs, g, s, ks, fs, rfl, hl, hds, hg, hf, hd, hs, hfx, hnd, hM, hfk, hval, hk, hp, q⟩ := h
    have hu := hu_of hr
    refine ⟨_, (pss_cons (ps_set (i := 5) sc__law_steps.nd rfl (Or.inl rfl) (pe_op op_add (pe_dget hu (pv 3) (pv 4) (fun _ _ => rfl)) (pe_call (G__law_body base) (hr.mono (by decide)) (by rfl) m__law_body k__law_body b__law_body .nil pass0 (pa_cons (pe_ix (ix_listK K rfl) (pv 0) (pv 4) (fun _ _ => rfl)) (pa_cons (pv 2) pa_nil)))))
      (pss_cons (ps_for PassesOwn.never rfl (pi_tupK K rfl (pe_ix (ix_tupK K rfl) (pe_ix (ix_listK K rfl) (pv 0) (pv 4) (fun _ _ => rfl)) pe_int (fun _ _ => rfl))) (pg_name (i := 6) sc__law_steps.nd rfl (Or.inl rfl)) (pss_one (ps_for PassesOwn.never rfl (pi_listK K rfl (pv 1)) (pg_name (i := 7) sc__law_steps.nd rfl (Or.inl rfl)) (pss_one (ps_if (PW.pt (pw_and (pt_cmpR op_eq (pe_ix (ix_tupK K rfl) (pe_ix (ix_listK K rfl) (pv 0) (pv 7) (fun _ _ => rfl)) pe_int (fun _ _ => rfl)) (pv 6) (nomark _)) (pw_and1 (pt_cmpR op_gt (pe_dget hu (pv 3) (pv 7) (fun _ _ => rfl)) (pe_op op_sub (pv 5) (pe_dget hu (pv 2) (pv 6) (fun _ _ => rfl))) (nomark _))))) (pss_one (ps_ret pe_bl)) pss_nil)))))
      (pss_one (ps_ret pe_bl)))), ?_⟩
    obtain ⟨r0, rest, r, eg, er, em, _⟩ : ∃ r0 rest r, g = r0 :: rest ∧ g[k]? = some r ∧ Sized s r ∧ True := by
      obtain ⟨r, r0, rest, eg, er, em, _⟩ := hnd k hk
      exact ⟨r0, rest, r, eg, er, em, trivial⟩
    obtain ⟨m, em⟩ := em
    have hok := rule_okB hg er
    have hm := sizeR_sum hs.pos em
    obtain ⟨t, pp, ax, ht, hpp⟩ := rule_num hds er
    obtain ⟨h, hmem, dg⟩ := dget_fs hM (k := k) (by rw [hfk]; exact hk)
    obtain ⟨r0', rest', r', o, eg', er', wy, df, eh⟩ := hval _ hmem
    rw [eg] at eg'
    cases eg'
    have er' : g[k]? = some r' := er'
    rw [er] at er'
    cases er'
    have eh : look o r.1 = some h := eh
    refine ⟨_, rfl, _, rfl, dM, .int h, rfl, dg, _, rfl, _, rfl, l, _, _, _, rfl, rfl, SqL.of hl, ax, _, rfl, t, pp, d, r.1, r.2.2, r.2.1, s, rfl, ht, hpp, (rule_parts hok).2, (rule_parts hok).1, hd, fun x hx hq => ?_, hp, fun H1 s1 p1 => ⟨_, _, rfl, rfl, ?_⟩⟩
    · obtain ⟨v, ev, _⟩ := (sizeG_part hs.pos em).2 x hx hq
      exact ⟨v, ev⟩
    refine ⟨_, rfl, _, rfl, l, _, _, _, rfl, rfl, SqL.of (s1 _ _ hl), ax, t, _, 1, _, rfl, rfl, SqT.of (s1 _ _ ht), rfl, pp, rfl, ⟨_, SqT.of (s1 _ _ hpp)⟩, ?_⟩
    refine for_tup (K := K) (a := pp) (xs := r.2.1.map V.str) (fun i σ H2 => ∃ v6 v7, σ = [some (.ref l), some (.ref f), some (.ref d), some (.ref dM), some (.int (k : Int)), some (.int (h + (1 + szSum s r.2.1))), v6, v7] ∧ Same H H2 ∧ Plain H2) ⟨none, none, rfl, s1, p1⟩ ?_ ?_ ?_
    · rintro i σ H2 _ ⟨_, _, rfl, s2, _⟩
      exact SqT.of (s2 _ _ hpp)
    · rintro i y σ H2 hi ⟨v6, v7, rfl, s2, p2⟩
      rw [List.getElem?_map] at hi
      cases ex : r.2.1[i]? with
      | none => rw [ex] at hi; cases hi
      | some x =>
        rw [ex] at hi
        cases hi
        have hx := List.mem_of_getElem? ex
        refine ⟨_, rfl, f, rfl, ⟨_, SqL.of (s2 _ _ hf)⟩, for_list (K := K) (a := f) (xs := ks.map nV) (fun i σ H3 => ∃ v7, σ = [some (.ref l), some (.ref f), some (.ref d), some (.ref dM), some (.int (k : Int)), some (.int (h + (1 + szSum s r.2.1))), some (.str x), v7] ∧ Same H H3 ∧ Plain H3) ⟨v7, rfl, s2, p2⟩ ?_ ?_ ?_⟩
        · rintro j σ H3 _ ⟨_, rfl, s3, _⟩
          exact SqL.of (s3 _ _ hf)
        · rintro j y σ H3 hj ⟨v7, rfl, s3, p3⟩
          obtain ⟨k', hk', rfl⟩ := List.mem_map.mp (List.mem_of_getElem? hj)
          obtain ⟨h', hmem', dg'⟩ := dget_fs (s3 _ _ hM) (k := k') (by rw [hfk]; exact hk')
          obtain ⟨r0', rest', r', o', eg', er', wy', df', eh'⟩ := hval _ hmem'
          rw [eg] at eg'
          cases eg'
          have er' : g[k']? = some r' := er'
          have eh' : look o' r'.1 = some h' := eh'
          obtain ⟨t', pp', ax', ht', hpp'⟩ := rule_num hds er'
          refine ⟨_, rfl, _, rfl, l, _, _, _, rfl, rfl, SqL.of (s3 _ _ hl), ax', t', _, 0, _, rfl, rfl, SqT.of (s3 _ _ ht'), rfl, _, rfl, rfl, _, rfl, ?_⟩
          rw [decS]
          by_cases e : r'.1 = x
          · rw [decide_eq_true e]
            have hq : isQ x = false := by rw [← e]; exact name_noQ (rule_head (rule_okB hg er'))
            obtain ⟨sp, esp, _⟩ := (sizeG_part hs.pos em).2 x hx hq
            obtain ⟨v, ev, hle⟩ := df.1 r (List.mem_of_getElem? er) x hx m h sp em eh hq esp
            rw [wy_uniq hs wy df wy' df', ← e, eh'] at ev
            cases ev
            refine ⟨_, rfl, _, rfl, dM, .int h', rfl, dg', _, rfl, _, rfl, _, rfl, d, .int sp, rfl, dget_sz (s3 _ _ hd) esp, _, _, rfl, rfl, _, _, rfl, rfl, _, rfl, ?_⟩
            rw [decide_eq_false (by omega)]
            exact iteF ⟨_, rfl, s3, p3⟩
          · rw [decide_eq_false e]
            exact iteF ⟨_, rfl, s3, p3⟩
        · rintro σ H3 ⟨v7, rfl, s3, p3⟩
          exact ⟨_, _, rfl, s3, p3⟩
    · rintro σ H2 ⟨v6, v7, rfl, s2, p2⟩
      exact q H2 s2 p2
end
end FR


set_option linter.all false
set_option maxRecDepth 100000
set_option maxHeartbeats 4000000
namespace FR
open PySem L2

theorem dens_nats {H : Hp} (ks : List Nat) : Dens H (ks.map nV) ((ks.map fun k : Nat => (k : Int)).map D.int) := by
  have e : ks.map nV = (ks.map fun k : Nat => (k : Int)).map V.int := by rw [List.map_map]; rfl
  rw [e]
  exact Dens.ints _
theorem eqD_nilN (ks : List Nat) : eqD (.lst ((ks.map fun k : Nat => (k : Int)).map D.int)) (.lst []) = decide (ks = []) := by
  cases ks with
  | nil => rfl
  | cons b bs => rfl
theorem dens_revB {H : Hp} : ∀ {xs : List V} {ds : List D}, Dens H xs ds → Dens H xs.reverse ds.reverse
  | [], [], _ => .nil
  | [], _ :: _, h => by unfold Dens at h; exact h.elim
  | _ :: _, [], h => by unfold Dens at h; exact h.elim
  | x :: xs, d :: ds, h => by
    unfold Dens at h
    rw [List.reverse_cons, List.reverse_cons]
    exact (dens_revB h.2).append (.cons h.1 .nil)
theorem okGram_revB {g : Gram} (h : okGram g = true) : okGram g.reverse = true := by
  unfold okGram at h ⊢
  rw [Bool.and_eq_true] at h
  rw [List.length_reverse, List.all_reverse, h.1, h.2]
  rfl
theorem Reach.rev {g : Gram} {s : Sz} {z0 z : Str} (h : Reach g.reverse s z0 z) : Reach g s z0 z := by
  induction h with
  | start => exact .start
  | step hr hsz _ hp hq ih => exact .step (List.mem_reverse.mp hr) hsz ih hp hq
theorem WyOk.rev {g : Gram} {s : Sz} {z0 : Str} {o : Sz} (w : WyOk g.reverse s z0 o) : WyOk g s z0 o := ⟨w.nd, w.has, w.nn, w.bd, fun z v e => (w.rch z v e).rev⟩
theorem DF.rev {g : Gram} {s : Sz} {z0 : Str} {o : Sz} (f : DF g.reverse s z0 o) : DF g s z0 o := ⟨fun r hr => f.1 r (List.mem_reverse.mpr hr), fun p v e => by
  rcases f.2 p v e with h | ⟨r, m, h, sp, hr, t⟩
  · exact .inl h
  · exact .inr ⟨r, m, h, sp, List.mem_reverse.mp hr, t⟩⟩
theorem atI_end {xs : List V} {v : V} (hx : 0 < xs.length) (e : atI xs ((xs.length - 1 : Nat) : Int) = some v) : atI xs (-1) = some v := by
  rcases List.eq_nil_or_concat xs with h | ⟨xs', y, h⟩
  · rw [h] at hx
    cases hx
  · rw [List.concat_eq_append] at h
    subst h
    rw [atI_last]
    have : (xs' ++ [y])[xs'.length]? = some y := by simp
    have e2 := atI_nat this
    rw [List.length_append] at e
    have e : atI (xs' ++ [y]) ((xs'.length + 1 - 1 : Nat) : Int) = some v := e
    rw [Nat.add_sub_cancel, e2] at e
    exact e
theorem rev_at {g : Gram} {k : Nat} (h : k < g.length) : g.reverse[g.length - 1 - k]? = g[k]? := by
  rw [List.getElem?_reverse (by omega)]
  congr 1
  omega
section
variable {P : Program} {w : World} {K : PySem.W.Frag} {mg : Str → Option Value} {base : Heap} {C : Adr}
theorem sc_law : FnScope ["_law_script", "_law_grammar", "_law_some", "_law_sizes", "_law_more_here", "_law_number", "_law_turned", "_law_due"] ["_law_script"] (defScope s_law) := ⟨rfl, rfl, rfl, by decide +kernel, rfl, by decide +kernel, by decide +kernel⟩
theorem ok_law {f : Addr} {fd : FuncData} (F : Fun K "law" "law" s_law f fd) (T : Txt K mg C) (U__law_bare : Used P w K mg CX0 3 "_law_bare" ["_law_script", "_law_many", "_law_most"] (spBare K)) (U_needed : Used P w K mg (CXo P w) 8 "needed" ["grammar"] (spNeeded C.NoGrammar)) (U_least : Used P w K mg (CXo P w) 8 "least" ["grammar"] (spLeast C.NoGrammar)) (U__law_mores : Used P w K mg CX0 10 "_law_mores" ["_law_grammar", "_law_some", "_law_sizes"] (spMores)) (U__law_steps : Used P w K mg CX0 3 "_law_steps" ["_law_grammar", "_law_some", "_law_sizes", "_law_more_here", "_law_number"] (spSteps)) (U__law_body : Used P w K mg CX0 2 "_law_body" ["_law_rule", "_law_sizes"] (spBody)) (U_row_with : Used P w K mg (CXo P w) 8 "row_with" ["grammar", "number"] (spRowWith)) (U__law_mixed : Used P w K mg CX0 2 "_law_mixed" ["_law_script", "_law_k"] (spMixed K)) : FnOk P w K mg base CX0 11 f fd ["_law_script"] (spLaw K) := by
  obtain ⟨f__law_bare, fd__law_bare, G__law_bare, m__law_bare, k__law_bare, b__law_bare⟩ := U__law_bare.ok
  obtain ⟨f_needed, fd_needed, G_needed, m_needed, k_needed, b_needed⟩ := U_needed.ok
  obtain ⟨f_least, fd_least, G_least, m_least, k_least, b_least⟩ := U_least.ok
  obtain ⟨f__law_mores, fd__law_mores, G__law_mores, m__law_mores, k__law_mores, b__law_mores⟩ := U__law_mores.ok
  obtain ⟨f__law_steps, fd__law_steps, G__law_steps, m__law_steps, k__law_steps, b__law_steps⟩ := U__law_steps.ok
  obtain ⟨f__law_body, fd__law_body, G__law_body, m__law_body, k__law_body, b__law_body⟩ := U__law_body.ok
  obtain ⟨f_row_with, fd_row_with, G_row_with, m_row_with, k_row_with, b_row_with⟩ := U_row_with.ok
  obtain ⟨f__law_mixed, fd__law_mixed, G__law_mixed, m__law_mixed, k__law_mixed, b__law_mixed⟩ := U__law_mixed.ok
  refine F.ok sc_law (fun vs H Q E h => ?_) (fun cdv A outer s H vs Q E hr h => ?_)
  · obtain ⟨a, ns, rfl, _⟩ := h
    rfl
  · obtain ⟨a, ns, rfl, hS, hn, hp, q⟩ := h
    have hu := hu_of hr
    have hU := hr.units
    refine qex ?_
    refine ⟨_, (qss_cons ⟨(ps_set (i := 1) sc_law.nd rfl (Or.inl rfl) (pe_call (G__law_bare base) (hr.mono (by decide)) (by rfl) m__law_bare k__law_bare b__law_bare .nil pass0 (pa_cons (pv 0) (pa_cons (pe_op op_add pe_int (pe_op op_mul pe_int (pe_callTy call_int1 (by rfl) T.z_int PyProof.Rows.Boot.«int» (pa_cons (pe_cmpR op_eq (pe_op op_mod (pe_call (G__law_mixed base) (hr.mono (by decide)) (by rfl) m__law_mixed k__law_mixed b__law_mixed .nil pass0 (pa_cons (pv 0) (pa_cons pe_int pa_nil))) pe_int) pe_int (nomark _)) pa_nil)))) (pa_cons pe_int pa_nil)))))⟩
      (qss_cons ⟨(ps_set (i := 2) sc_law.nd rfl (Or.inl rfl) (pe_call (G_needed base) (hr.mono (by decide)) (by rfl) m_needed k_needed b_needed .nil passX (pa_cons (pv 1) pa_nil)))⟩
      (qss_cons ⟨(ps_set (i := 3) sc_law.nd rfl (Or.inl rfl) (pe_call (G_least base) (hr.mono (by decide)) (by rfl) m_least k_least b_least .nil passX (pa_cons (pv 1) pa_nil)))⟩
      (qss_cons ⟨(ps_set (i := 4) sc_law.nd rfl (Or.inl rfl) (pe_call (G__law_mores base) (hr.mono (by decide)) (by rfl) m__law_mores k__law_mores b__law_mores .nil pass0 (pa_cons (pv 1) (pa_cons (pv 2) (pa_cons (pv 3) pa_nil)))))⟩
      (qss_cons ⟨(ps_if (pt_cmpR op_isN (pv 4) pe_non (nomark _)) (pss_one (ps_ret pe_bl)) pss_nil)⟩
      (qss_cons ⟨(ps_for PassesOwn.never rfl (pi_listK K rfl (pv 2)) (pg_name (i := 5) sc_law.nd rfl (Or.inl rfl)) (pss_one (ps_if (pt_not (pt_val (pe_call (G__law_steps base) (hr.mono (by decide)) (by rfl) m__law_steps k__law_steps b__law_steps .nil pass0 (pa_cs (pv 1) (pa_cs (pv 2) (pa_cs (pv 3) (pa_cs (pv 4) (pa_cs (pv 5) pa_nil)))))))) (pss_one (ps_ret pe_bl)) pss_nil)))⟩
      (qss_cons ⟨(ps_if (PW.pt (pw_or (pt_cmpR (op_eq_deep K rfl hU) (pv 2) (pe_lst pa_nil) (nomark _)) (pw_or1 (pt_cmpR op_ne (pe_ix (ix_tupK K rfl) (pe_ix (ix_listK K rfl) (pv 1) (pe_un un_neg pe_int) (fun _ _ => rfl)) pe_int (fun _ _ => rfl)) (pe_ix (ix_tupK K rfl) (pe_ix (ix_listK K rfl) (pv 1) pe_int (fun _ _ => rfl)) pe_int (fun _ _ => rfl)) (nomark _))))) (pss_one (ps_ret pe_bl)) pss_nil)⟩
      (qss_cons ⟨(ps_set (i := 6) sc_law.nd rfl (Or.inl rfl) (pe_list_rev rfl rfl T.z_list rfl T.z_reversed (pa_cons (pv 1) pa_nil)))⟩
      (qss_cons ⟨(ps_for PassesOwn.never rfl (pi_listK K rfl (pv 2)) (pg_name (i := 5) sc_law.nd rfl (Or.inl rfl)) (pss_cons (ps_set (i := 7) sc_law.nd rfl (Or.inl rfl) (pe_op op_add (pe_dget hu (pv 4) (pv 5) (fun _ _ => rfl)) (pe_call (G__law_body base) (hr.mono (by decide)) (by rfl) m__law_body k__law_body b__law_body .nil pass0 (pa_cons (pe_ix (ix_listK K rfl) (pv 1) (pv 5) (fun _ _ => rfl)) (pa_cons (pv 3) pa_nil)))))
      (pss_one (ps_if (pt_cmpR op_ne (pe_callB (call_len_seqK K rfl) (by rfl) T.z_len PyProof.Rows.Boot.«len» (pa_cons (pe_call (G_row_with base) (hr.mono (by decide)) (by rfl) m_row_with k_row_with b_row_with .nil passX (pa_cons (pv 6) (pa_cons (pe_op op_sub (pe_op op_sub (pe_callB (call_len_seqK K rfl) (by rfl) T.z_len PyProof.Rows.Boot.«len» (pa_cons (pv 1) pa_nil)) pe_int) (pv 5)) pa_nil))) pa_nil)) (pv 7) (nomark _)) (pss_one (ps_ret pe_bl)) pss_nil))))⟩
      (qss_one ⟨(ps_ret pe_bl)⟩)))))))))), ?_⟩
    have notG : ∀ {g : Gram}, okGram g = true → isGramD (gramD g) = false → False := fun {g} h e => by rw [isGramD_gramD, h] at e; cases e
    refine ⟨_, rfl, _, rfl, a, ns, 1, rfl, hS, by decide, by decide, fun v0 _ _ => ⟨v0, 4, rfl, rfl, (show (0 : Int) < 4 by decide), rfl, .inr ⟨_, rfl, 6, _, rfl, rfl, .inl ⟨by decide, by decide⟩, 12, _, rfl, rfl, a, ns, _, 3, rfl, hS, hn, ?_, ?_, by decide, by decide, hp, fun l xs g H1 nm hg s1 p1 hl0 hl hdsD n4 hnm => ?_⟩⟩⟩
    · split <;> decide
    · split <;> decide
    have hds := hdsD.same (del_same _ _)
    refine ⟨_, rfl, .ref l, gramD g, rfl, .lst (.inl hl) hds, short_gram hg, p1, fun g' e hg' lf s ks H2 hs hfx srt mem s2 p2 hlf0 hlf => ?_, fun hf => (notG hg hf).elim⟩
    cases gramD_inj e
    have hlf : H2 lf = some (.lst (ks.map nV)) := hlf
    refine ⟨_, rfl, .ref l, gramD g, rfl, .lst (.inl (s2 _ _ hl)) (hds.same s2), short_gram hg, p2, fun g' e hg' ld sz H3 hsz hfz s3 p3 hld0 hld => ?_, fun hf => (notG hg hf).elim⟩
    cases gramD_inj e
    have hnd : ∀ k ∈ ks, Need g sz k := fun k hk => need_oneB hs hfx hsz hfz ((mem k).mp hk)
    have s13 := s2.trans s3
    have h3 : ∀ r ∈ g, r.2.1.length ≤ 3 := fun r hr => by
      have := (hnm r hr).2
      omega
    have hbd : Bd g sz := fun k r0 rest r m o h eg er em wy df eh => short4 hsz hfz h3 n4 (fun r hr => (hnm r hr).1) (by rw [eg]; exact List.mem_cons_self ..) wy df (List.mem_of_getElem? er) em eh
    refine ⟨_, rfl, _, rfl, _, rfl, l, lf, ld, xs, g, sz, ks, rfl, s13 _ _ hl, hds.same s13, hg, s3 _ _ hlf, srt, hld, hsz, hfz, hnd, hbd, p3, fun dM fs H4 hfk hval s4 p4 hdM0 hdM => ⟨_, rfl, rfl, _, rfl, iteF ?_⟩⟩
    have s14 := s13.trans s4
    have hlf4 := s4 _ _ (s3 _ _ hlf)
    have hld4 := s4 _ _ hld
    have hl4 := s14 _ _ hl
    have hds4 := hds.same s14
    refine ⟨_, rfl, lf, rfl, ⟨_, SqL.of hlf4⟩, for_list (K := K) (a := lf) (xs := ks.map nV) (fun i σ H5 => ∃ v5, σ = [some (.ref a), some (.ref l), some (.ref lf), some (.ref ld), some (.ref dM), v5, none, none] ∧ Same H4 H5 ∧ Plain H5) ⟨none, rfl, Same.refl _, p4⟩ ?_ ?_ ?_⟩
    · rintro i σ H5 _ ⟨_, rfl, s5, _⟩
      exact SqL.of (s5 _ _ hlf4)
    · rintro i y σ H5 hi ⟨v5, rfl, s5, p5⟩
      obtain ⟨k, hk, rfl⟩ := List.mem_map.mp (List.mem_of_getElem? hi)
      exact ⟨_, rfl, _, rfl, _, rfl, _, rfl, _, rfl, l, lf, ld, dM, k, xs, g, sz, ks, fs, rfl, s5 _ _ hl4, hds4.same s5, hg, s5 _ _ hlf4, s5 _ _ hld4, hsz, hfz, hnd, s5 _ _ hdM, hfk, hval, hk, p5, fun H6 s6 p6 => ⟨_, rfl, iteF ⟨_, rfl, s5.trans s6, p6⟩⟩⟩
    rintro σ H5 ⟨v5, rfl, s5, p5⟩
    refine ⟨_, rfl, Nat.zero_le _, fun le hle => ?_⟩
    have s6 := s5.trans (Same.upd (o := .lst []) hle)
    refine ⟨.lst ((ks.map fun k : Nat => (k : Int)).map D.int), .lst [], .lst (.inl (s6 _ _ hlf4)) (dens_nats ks), .lst (.inl upd_same) .nil, ok_ints _, rfl, dep_ints _, _, rfl, ?_⟩
    rw [eqD_nilN]
    have p6 : Plain (upd H5 le (.lst [])) := p5.upd rfl
    revert s6 p6
    generalize upd H5 le (.lst []) = H6
    intro s6 p6
    by_cases hks : ks = []
    · rw [decide_eq_true hks]
      exact iteT (q _)
    rw [decide_eq_false hks]
    obtain ⟨r0, rest, eg⟩ : ∃ r0 rest, g = r0 :: rest := by
      cases ks with
      | nil => exact absurd rfl hks
      | cons k0 ks' =>
        obtain ⟨_, r0, rest, eg, _⟩ := hnd k0 (List.mem_cons_self ..)
        exact ⟨r0, rest, eg⟩
    have hglen : 0 < g.length := by rw [eg]; exact Nat.succ_pos _
    have hxl : xs.length = g.length := by rw [hds.len, List.length_map]
    obtain ⟨rl, erl⟩ : ∃ rl, g[g.length - 1]? = some rl := ⟨_, List.getElem?_eq_getElem (by omega)⟩
    have er0 : g[0]? = some r0 := by rw [eg]; rfl
    obtain ⟨t0, q0, ax0, ht0, _⟩ := rule_num hds4 er0
    obtain ⟨tl, ql, axl, htl, _⟩ := rule_num hds4 erl
    have axl : atI xs (-1) = some (.ref tl) := atI_end (by omega) (by rw [hxl]; exact axl)
    have sql : SqL K H6 l xs := SqL.of (s6 _ _ hl4)
    refine iteF ⟨_, rfl, 1, rfl, l, _, -1, _, rfl, rfl, sql, axl, tl, _, 0, _, rfl, rfl, SqT.of (s6 _ _ htl), rfl, _, rfl, l, _, 0, _, rfl, rfl, sql, ax0, t0, _, 0, _, rfl, rfl, SqT.of (s6 _ _ ht0), rfl, rfl, _, rfl, ?_⟩
    rw [decS]
    by_cases e : rl.1 = r0.1
    case neg =>
      rw [decide_eq_false e]
      exact iteT (q _)
    rw [decide_eq_true e]
    refine iteF ⟨_, rfl, l, xs, rfl, .inl (s6 _ _ hl4), fun lt hlt => ?_⟩
    have s7 := s6.trans (Same.upd (o := .lst xs.reverse) hlt)
    have hlt7 : upd H6 lt (.lst xs.reverse) lt = some (.lst xs.reverse) := upd_same
    have p7 : Plain (upd H6 lt (.lst xs.reverse)) := p6.upd rfl
    revert s7 hlt7 p7
    generalize upd H6 lt (.lst xs.reverse) = H7
    intro s7 hlt7 p7
    have hgr := okGram_revB hg
    have hszr : SzOk g.reverse 0 sz := SzOk.rev (by rw [List.reverse_reverse]; exact hsz)
    have hfzr : Fix g.reverse 0 sz := Fix.rev (by rw [List.reverse_reverse]; exact hfz)
    have hdr : ∀ {G : Hp}, Same H7 G → Dens G xs.reverse (g.reverse.map ruleD) := fun {G} z => by
      rw [List.map_reverse]
      exact dens_revB (hds4.same (s7.trans z))
    have hrl : ∀ {z zs}, g.reverse = z :: zs → z.1 = r0.1 := fun {z zs} ez => by
      have h1 := rev_at (g := g) (k := g.length - 1) (by omega)
      rw [show g.length - 1 - (g.length - 1) = 0 by omega, ez, erl] at h1
      cases h1
      exact e
    refine ⟨_, rfl, lf, rfl, ⟨_, SqL.of (s7 _ _ hlf4)⟩, for_list (K := K) (a := lf) (xs := ks.map nV) (fun i σ H8 => ∃ v5 v7, σ = [some (.ref a), some (.ref l), some (.ref lf), some (.ref ld), some (.ref dM), v5, some (.ref lt), v7] ∧ Same H7 H8 ∧ Plain H8) ⟨_, _, rfl, Same.refl _, p7⟩ ?_ ?_ ?_⟩
    · rintro i σ H8 _ ⟨_, _, rfl, s8, _⟩
      exact SqL.of ((s7.trans s8) _ _ hlf4)
    · rintro i y σ H8 hi ⟨v5, v7, rfl, s8, p8⟩
      obtain ⟨k, hk, rfl⟩ := List.mem_map.mp (List.mem_of_getElem? hi)
      have s48 := s7.trans s8
      obtain ⟨r, r00, rest0, eg0, er, ⟨m, em⟩, hre⟩ := hnd k hk
      rw [eg] at eg0
      cases eg0
      have hkl : k < g.length := (List.getElem?_eq_some_iff.mp er).1
      have hok := rule_okB hg er
      have hm := sizeR_sum hsz.pos em
      obtain ⟨t, pp, ax, ht, hpp⟩ := rule_num hds4 er
      obtain ⟨h, hmem, dg⟩ := dget_fs (s48 _ _ hdM) (k := k) (by rw [hfk]; exact hk)
      obtain ⟨r0', rest', r', o, eg', er', wy, df, eh⟩ := hval _ hmem
      rw [eg] at eg'
      cases eg'
      have er' : g[k]? = some r' := er'
      rw [er] at er'
      cases er'
      have eh : look o r.1 = some h := eh
      refine ⟨_, rfl, _, rfl, dM, .int h, rfl, dg, _, rfl, _, rfl, l, _, _, _, rfl, rfl, SqL.of (s48 _ _ hl4), ax, _, rfl, t, pp, ld, r.1, r.2.2, r.2.1, sz, rfl, s48 _ _ ht, s48 _ _ hpp, (rule_parts hok).2, (rule_parts hok).1, s48 _ _ hld4, fun x hx hq => ?_, p8, fun H9 s9 p9 => ⟨_, _, rfl, rfl, ?_⟩⟩
      · obtain ⟨v, ev, _⟩ := (sizeG_part hsz.pos em).2 x hx hq
        exact ⟨v, ev⟩
      have s79 := s8.trans s9
      have s49 := s7.trans s79
      have ei : (xs.length : Int) - 1 - (k : Int) = ((g.length - 1 - k : Nat) : Int) := by omega
      refine ⟨_, rfl, _, rfl, l, _, rfl, .inl (SqL.of (s49 _ _ hl4)), _, _, rfl, rfl, _, rfl, _, _, rfl, rfl, .ref lt, g.length - 1 - k, g.reverse, sz, by show [V.ref lt, V.int ((xs.length : Int) - 1 - (k : Int))] = _; rw [ei], .lst (.inl (s79 _ _ hlt7)) (hdr s79), hgr, hszr, hfzr, ?_, fun z zs r' m' o' h' ez er' em' wy' df' eh' => ?_, p9, fun lr kr z zs r' m' o' h' H10 ez er' em' wy' df' eh' hrow' hk' hlen' s10 p10 hlr0 hlr => ⟨lr, _, rfl, .inl (SqL.of hlr), _, rfl, rfl, _, rfl, ?_⟩⟩
      · obtain ⟨z, zs, ez⟩ : ∃ z zs, g.reverse = z :: zs := by
          cases ez : g.reverse with
          | nil =>
            have := congrArg List.length ez
            rw [List.length_reverse, List.length_nil] at this
            omega
          | cons z zs => exact ⟨z, zs, rfl⟩
        exact ⟨r, z, zs, ez, by rw [rev_at hkl]; exact er, ⟨m, em⟩, by rw [hrl ez]; exact Reach.rev (by rw [List.reverse_reverse]; exact hre)⟩
      · rw [hrl ez] at wy' df'
        rw [rev_at hkl, er] at er'
        cases er'
        exact hbd k r0 rest r m' o' h' eg er em' wy'.rev df'.rev eh'
      · rw [hrl ez] at wy' df'
        rw [rev_at hkl, er] at er'
        cases er'
        rw [em] at em'
        cases em'
        rw [wy_uniq hsz wy'.rev df'.rev wy df, eh] at eh'
        cases eh'
        have e1 : (((kr.map nV).length : Nat) : Int) = h + (1 + szSum sz r.2.1) := by rw [List.length_map, hlen']; omega
        rw [e1, decide_eq_true rfl]
        exact iteF ⟨_, _, rfl, s79.trans s10, p10⟩
    · rintro σ H8 ⟨v5, v7, rfl, s8, p8⟩
      exact q _
end
theorem all_mk {l : PySem.W.OpenLaw} {w : World} {K : PySem.W.Frag} {h : Heap} {mg : Str → Option Value} {fa c_NoGrammar c_NoRow c_TooGreat f0 f1 f2 f3 f4 f5 f6 f7 f8 f9 f10 f11 f12 f13 f14 f15 f16 f17 f18 f19 f20 f21 f22 f23 f24 f25 f26 f27 f28 f29 f30 f31 f32 f33 f34 f35 f36 : Addr} (X : K.In h) (G : h.Ns mainGlobals mg) (hfa : mg "law" = some (.ref fa))
    {od0 od1 od2 od3 od4 od5 od6 od7 od8 od9 od10 od11 od12 od13 od14 od15 od16 od17 od18 od19 od20 od21 od22 od23 od24 od25 od26 od27 od28 od29 od30 od31 od32 od33 od34 od35 od36 an0 an1 an2 an3 an4 an5 an6 an7 an8 an9 an10 an11 an12 an13 an14 an15 an16 an17 an18 an19 an20 an21 an22 an23 an24 an25 an26 an27 an28 an29 an30 an31 an32 an33 an34 an35 an36 : Option Addr} {sl0 sl1 sl2 sl3 sl4 sl5 sl6 sl7 sl8 sl9 sl10 sl11 sl12 sl13 sl14 sl15 sl16 sl17 sl18 sl19 sl20 sl21 sl22 sl23 sl24 sl25 sl26 sl27 sl28 sl29 sl30 sl31 sl32 sl33 sl34 sl35 sl36 : Array (Option Value)} {oc0 oc1 oc2 oc3 oc4 oc5 oc6 oc7 oc8 oc9 oc10 oc11 oc12 oc13 oc14 oc15 oc16 oc17 oc18 oc19 oc20 oc21 oc22 oc23 oc24 oc25 oc26 oc27 oc28 oc29 oc30 oc31 oc32 oc33 oc34 oc35 oc36 kV0 kV1 kV2 kV3 kV4 kV5 kV6 kV7 kV8 kV9 kV10 kV11 kV12 kV13 kV14 kV15 kV16 kV17 kV18 kV19 kV20 kV21 kV22 kV23 kV24 kV25 kV26 kV27 kV28 kV29 kV30 kV31 kV32 kV33 kV34 kV35 kV36 dc0 dc1 dc2 dc3 dc4 dc5 dc6 dc7 dc8 dc9 dc10 dc11 dc12 dc13 dc14 dc15 dc16 dc17 dc18 dc19 dc20 dc21 dc22 dc23 dc24 dc25 dc26 dc27 dc28 dc29 dc30 dc31 dc32 dc33 dc34 dc35 dc36 pm0 pm1 pm2 pm3 pm4 pm5 pm6 pm7 pm8 pm9 pm10 pm11 pm12 pm13 pm14 pm15 pm16 pm17 pm18 pm19 pm20 pm21 pm22 pm23 pm24 pm25 pm26 pm27 pm28 pm29 pm30 pm31 pm32 pm33 pm34 pm35 pm36 cd0 cd1 cd2 cd3 cd4 cd5 cd6 cd7 cd8 cd9 cd10 cd11 cd12 cd13 cd14 cd15 cd16 cd17 cd18 cd19 cd20 cd21 cd22 cd23 cd24 cd25 cd26 cd27 cd28 cd29 cd30 cd31 cd32 cd33 cd34 cd35 cd36 ct0 ct1 ct2 ct3 ct4 ct5 ct6 ct7 ct8 ct9 ct10 ct11 ct12 ct13 ct14 ct15 ct16 ct17 ct18 ct19 ct20 ct21 ct22 ct23 ct24 ct25 ct26 ct27 ct28 ct29 ct30 ct31 ct32 ct33 ct34 ct35 ct36 : Value} {tFIRST_CODE tLAST_CODE tPERCENT_CODE tMOST_LETTERS tMOST_PARTS tMOST_RULES tMOST_NUMBERS : Tok}
    (nNoGrammar : PySem.W.nsIn K mainGlobals "NoGrammar" = some (some (.ref c_NoGrammar)))
    (nNoRow : PySem.W.nsIn K mainGlobals "NoRow" = some (some (.ref c_NoRow)))
    (nTooGreat : PySem.W.nsIn K mainGlobals "TooGreat" = some (some (.ref c_TooGreat)))
    (d0 : PySem.W.nsIn K mainGlobals "is_whole" = some (some (.ref f0)))
    (l0 : K.lookup f0 = some ⟨oc0, od0, .func (PySem.W.fnOf "is_whole" "is_whole" (defArgs s_is_whole) (defBody s_is_whole) (defScope s_is_whole) .none kV0 dc0 pm0 an0 cd0 ct0), sl0⟩)
    (c0 : PySem.W.codeIn K cd0 "is_whole" = true)
    (k0 : PySem.W.keepIn K (.ref f0) = true)
    (d1 : PySem.W.nsIn K mainGlobals "stands_in_texts" = some (some (.ref f1)))
    (l1 : K.lookup f1 = some ⟨oc1, od1, .func (PySem.W.fnOf "stands_in_texts" "stands_in_texts" (defArgs s_stands_in_texts) (defBody s_stands_in_texts) (defScope s_stands_in_texts) .none kV1 dc1 pm1 an1 cd1 ct1), sl1⟩)
    (c1 : PySem.W.codeIn K cd1 "stands_in_texts" = true)
    (k1 : PySem.W.keepIn K (.ref f1) = true)
    (d2 : PySem.W.nsIn K mainGlobals "is_sign" = some (some (.ref f2)))
    (l2 : K.lookup f2 = some ⟨oc2, od2, .func (PySem.W.fnOf "is_sign" "is_sign" (defArgs s_is_sign) (defBody s_is_sign) (defScope s_is_sign) .none kV2 dc2 pm2 an2 cd2 ct2), sl2⟩)
    (c2 : PySem.W.codeIn K cd2 "is_sign" = true)
    (k2 : PySem.W.keepIn K (.ref f2) = true)
    (d3 : PySem.W.nsIn K mainGlobals "is_name" = some (some (.ref f3)))
    (l3 : K.lookup f3 = some ⟨oc3, od3, .func (PySem.W.fnOf "is_name" "is_name" (defArgs s_is_name) (defBody s_is_name) (defScope s_is_name) .none kV3 dc3 pm3 an3 cd3 ct3), sl3⟩)
    (c3 : PySem.W.codeIn K cd3 "is_name" = true)
    (k3 : PySem.W.keepIn K (.ref f3) = true)
    (d4 : PySem.W.nsIn K mainGlobals "is_part" = some (some (.ref f4)))
    (l4 : K.lookup f4 = some ⟨oc4, od4, .func (PySem.W.fnOf "is_part" "is_part" (defArgs s_is_part) (defBody s_is_part) (defScope s_is_part) .none kV4 dc4 pm4 an4 cd4 ct4), sl4⟩)
    (c4 : PySem.W.codeIn K cd4 "is_part" = true)
    (k4 : PySem.W.keepIn K (.ref f4) = true)
    (d5 : PySem.W.nsIn K mainGlobals "is_worth" = some (some (.ref f5)))
    (l5 : K.lookup f5 = some ⟨oc5, od5, .func (PySem.W.fnOf "is_worth" "is_worth" (defArgs s_is_worth) (defBody s_is_worth) (defScope s_is_worth) .none kV5 dc5 pm5 an5 cd5 ct5), sl5⟩)
    (c5 : PySem.W.codeIn K cd5 "is_worth" = true)
    (k5 : PySem.W.keepIn K (.ref f5) = true)
    (d6 : PySem.W.nsIn K mainGlobals "are_parts" = some (some (.ref f6)))
    (l6 : K.lookup f6 = some ⟨oc6, od6, .func (PySem.W.fnOf "are_parts" "are_parts" (defArgs s_are_parts) (defBody s_are_parts) (defScope s_are_parts) .none kV6 dc6 pm6 an6 cd6 ct6), sl6⟩)
    (c6 : PySem.W.codeIn K cd6 "are_parts" = true)
    (k6 : PySem.W.keepIn K (.ref f6) = true)
    (d7 : PySem.W.nsIn K mainGlobals "is_rule" = some (some (.ref f7)))
    (l7 : K.lookup f7 = some ⟨oc7, od7, .func (PySem.W.fnOf "is_rule" "is_rule" (defArgs s_is_rule) (defBody s_is_rule) (defScope s_is_rule) .none kV7 dc7 pm7 an7 cd7 ct7), sl7⟩)
    (c7 : PySem.W.codeIn K cd7 "is_rule" = true)
    (k7 : PySem.W.keepIn K (.ref f7) = true)
    (d8 : PySem.W.nsIn K mainGlobals "is_grammar" = some (some (.ref f8)))
    (l8 : K.lookup f8 = some ⟨oc8, od8, .func (PySem.W.fnOf "is_grammar" "is_grammar" (defArgs s_is_grammar) (defBody s_is_grammar) (defScope s_is_grammar) .none kV8 dc8 pm8 an8 cd8 ct8), sl8⟩)
    (c8 : PySem.W.codeIn K cd8 "is_grammar" = true)
    (k8 : PySem.W.keepIn K (.ref f8) = true)
    (d9 : PySem.W.nsIn K mainGlobals "checked" = some (some (.ref f9)))
    (l9 : K.lookup f9 = some ⟨oc9, od9, .func (PySem.W.fnOf "checked" "checked" (defArgs s_checked) (defBody s_checked) (defScope s_checked) .none kV9 dc9 pm9 an9 cd9 ct9), sl9⟩)
    (c9 : PySem.W.codeIn K cd9 "checked" = true)
    (k9 : PySem.W.keepIn K (.ref f9) = true)
    (d10 : PySem.W.nsIn K mainGlobals "_law_cell_at" = some (some (.ref f10)))
    (l10 : K.lookup f10 = some ⟨oc10, od10, .func (PySem.W.fnOf "_law_cell_at" "_law_cell_at" (defArgs s__law_cell_at) (defBody s__law_cell_at) (defScope s__law_cell_at) .none kV10 dc10 pm10 an10 cd10 ct10), sl10⟩)
    (c10 : PySem.W.codeIn K cd10 "_law_cell_at" = true)
    (k10 : PySem.W.keepIn K (.ref f10) = true)
    (d11 : PySem.W.nsIn K mainGlobals "_law_mixed" = some (some (.ref f11)))
    (l11 : K.lookup f11 = some ⟨oc11, od11, .func (PySem.W.fnOf "_law_mixed" "_law_mixed" (defArgs s__law_mixed) (defBody s__law_mixed) (defScope s__law_mixed) .none kV11 dc11 pm11 an11 cd11 ct11), sl11⟩)
    (c11 : PySem.W.codeIn K cd11 "_law_mixed" = true)
    (k11 : PySem.W.keepIn K (.ref f11) = true)
    (d12 : PySem.W.nsIn K mainGlobals "_law_signs" = some (some (.ref f12)))
    (l12 : K.lookup f12 = some ⟨oc12, od12, .func (PySem.W.fnOf "_law_signs" "_law_signs" (defArgs s__law_signs) (defBody s__law_signs) (defScope s__law_signs) .none kV12 dc12 pm12 an12 cd12 ct12), sl12⟩)
    (c12 : PySem.W.codeIn K cd12 "_law_signs" = true)
    (k12 : PySem.W.keepIn K (.ref f12) = true)
    (d13 : PySem.W.nsIn K mainGlobals "_law_names" = some (some (.ref f13)))
    (l13 : K.lookup f13 = some ⟨oc13, od13, .func (PySem.W.fnOf "_law_names" "_law_names" (defArgs s__law_names) (defBody s__law_names) (defScope s__law_names) .none kV13 dc13 pm13 an13 cd13 ct13), sl13⟩)
    (c13 : PySem.W.codeIn K cd13 "_law_names" = true)
    (k13 : PySem.W.keepIn K (.ref f13) = true)
    (d14 : PySem.W.nsIn K mainGlobals "_law_worth" = some (some (.ref f14)))
    (l14 : K.lookup f14 = some ⟨oc14, od14, .func (PySem.W.fnOf "_law_worth" "_law_worth" (defArgs s__law_worth) (defBody s__law_worth) (defScope s__law_worth) .none kV14 dc14 pm14 an14 cd14 ct14), sl14⟩)
    (c14 : PySem.W.codeIn K cd14 "_law_worth" = true)
    (k14 : PySem.W.keepIn K (.ref f14) = true)
    (d15 : PySem.W.nsIn K mainGlobals "_law_parts" = some (some (.ref f15)))
    (l15 : K.lookup f15 = some ⟨oc15, od15, .func (PySem.W.fnOf "_law_parts" "_law_parts" (defArgs s__law_parts) (defBody s__law_parts) (defScope s__law_parts) .none kV15 dc15 pm15 an15 cd15 ct15), sl15⟩)
    (c15 : PySem.W.codeIn K cd15 "_law_parts" = true)
    (k15 : PySem.W.keepIn K (.ref f15) = true)
    (d16 : PySem.W.nsIn K mainGlobals "size_of_part" = some (some (.ref f16)))
    (l16 : K.lookup f16 = some ⟨oc16, od16, .func (PySem.W.fnOf "size_of_part" "size_of_part" (defArgs s_size_of_part) (defBody s_size_of_part) (defScope s_size_of_part) .none kV16 dc16 pm16 an16 cd16 ct16), sl16⟩)
    (c16 : PySem.W.codeIn K cd16 "size_of_part" = true)
    (k16 : PySem.W.keepIn K (.ref f16) = true)
    (d17 : PySem.W.nsIn K mainGlobals "size_of_rule" = some (some (.ref f17)))
    (l17 : K.lookup f17 = some ⟨oc17, od17, .func (PySem.W.fnOf "size_of_rule" "size_of_rule" (defArgs s_size_of_rule) (defBody s_size_of_rule) (defScope s_size_of_rule) .none kV17 dc17 pm17 an17 cd17 ct17), sl17⟩)
    (c17 : PySem.W.codeIn K cd17 "size_of_rule" = true)
    (k17 : PySem.W.keepIn K (.ref f17) = true)
    (d18 : PySem.W.nsIn K mainGlobals "least_sizes" = some (some (.ref f18)))
    (l18 : K.lookup f18 = some ⟨oc18, od18, .func (PySem.W.fnOf "least_sizes" "least_sizes" (defArgs s_least_sizes) (defBody s_least_sizes) (defScope s_least_sizes) .none kV18 dc18 pm18 an18 cd18 ct18), sl18⟩)
    (c18 : PySem.W.codeIn K cd18 "least_sizes" = true)
    (k18 : PySem.W.keepIn K (.ref f18) = true)
    (d19 : PySem.W.nsIn K mainGlobals "least" = some (some (.ref f19)))
    (l19 : K.lookup f19 = some ⟨oc19, od19, .func (PySem.W.fnOf "least" "least" (defArgs s_least) (defBody s_least) (defScope s_least) .none kV19 dc19 pm19 an19 cd19 ct19), sl19⟩)
    (c19 : PySem.W.codeIn K cd19 "least" = true)
    (k19 : PySem.W.keepIn K (.ref f19) = true)
    (d20 : PySem.W.nsIn K mainGlobals "ways_down" = some (some (.ref f20)))
    (l20 : K.lookup f20 = some ⟨oc20, od20, .func (PySem.W.fnOf "ways_down" "ways_down" (defArgs s_ways_down) (defBody s_ways_down) (defScope s_ways_down) .none kV20 dc20 pm20 an20 cd20 ct20), sl20⟩)
    (c20 : PySem.W.codeIn K cd20 "ways_down" = true)
    (k20 : PySem.W.keepIn K (.ref f20) = true)
    (d21 : PySem.W.nsIn K mainGlobals "sizes_with" = some (some (.ref f21)))
    (l21 : K.lookup f21 = some ⟨oc21, od21, .func (PySem.W.fnOf "sizes_with" "sizes_with" (defArgs s_sizes_with) (defBody s_sizes_with) (defScope s_sizes_with) .none kV21 dc21 pm21 an21 cd21 ct21), sl21⟩)
    (c21 : PySem.W.codeIn K cd21 "sizes_with" = true)
    (k21 : PySem.W.keepIn K (.ref f21) = true)
    (d22 : PySem.W.nsIn K mainGlobals "needed" = some (some (.ref f22)))
    (l22 : K.lookup f22 = some ⟨oc22, od22, .func (PySem.W.fnOf "needed" "needed" (defArgs s_needed) (defBody s_needed) (defScope s_needed) .none kV22 dc22 pm22 an22 cd22 ct22), sl22⟩)
    (c22 : PySem.W.codeIn K cd22 "needed" = true)
    (k22 : PySem.W.keepIn K (.ref f22) = true)
    (d23 : PySem.W.nsIn K mainGlobals "_law_bare" = some (some (.ref f23)))
    (l23 : K.lookup f23 = some ⟨oc23, od23, .func (PySem.W.fnOf "_law_bare" "_law_bare" (defArgs s__law_bare) (defBody s__law_bare) (defScope s__law_bare) .none kV23 dc23 pm23 an23 cd23 ct23), sl23⟩)
    (c23 : PySem.W.codeIn K cd23 "_law_bare" = true)
    (k23 : PySem.W.keepIn K (.ref f23) = true)
    (d24 : PySem.W.nsIn K mainGlobals "_law_whole" = some (some (.ref f24)))
    (l24 : K.lookup f24 = some ⟨oc24, od24, .func (PySem.W.fnOf "_law_whole" "_law_whole" (defArgs s__law_whole) (defBody s__law_whole) (defScope s__law_whole) .none kV24 dc24 pm24 an24 cd24 ct24), sl24⟩)
    (c24 : PySem.W.codeIn K cd24 "_law_whole" = true)
    (k24 : PySem.W.keepIn K (.ref f24) = true)
    (d25 : PySem.W.nsIn K mainGlobals "_law_numbers" = some (some (.ref f25)))
    (l25 : K.lookup f25 = some ⟨oc25, od25, .func (PySem.W.fnOf "_law_numbers" "_law_numbers" (defArgs s__law_numbers) (defBody s__law_numbers) (defScope s__law_numbers) .none kV25 dc25 pm25 an25 cd25 ct25), sl25⟩)
    (c25 : PySem.W.codeIn K cd25 "_law_numbers" = true)
    (k25 : PySem.W.keepIn K (.ref f25) = true)
    (d26 : PySem.W.nsIn K mainGlobals "smallest_rules" = some (some (.ref f26)))
    (l26 : K.lookup f26 = some ⟨oc26, od26, .func (PySem.W.fnOf "smallest_rules" "smallest_rules" (defArgs s_smallest_rules) (defBody s_smallest_rules) (defScope s_smallest_rules) .none kV26 dc26 pm26 an26 cd26 ct26), sl26⟩)
    (c26 : PySem.W.codeIn K cd26 "smallest_rules" = true)
    (k26 : PySem.W.keepIn K (.ref f26) = true)
    (d27 : PySem.W.nsIn K mainGlobals "smallest_row" = some (some (.ref f27)))
    (l27 : K.lookup f27 = some ⟨oc27, od27, .func (PySem.W.fnOf "smallest_row" "smallest_row" (defArgs s_smallest_row) (defBody s_smallest_row) (defScope s_smallest_row) .none kV27 dc27 pm27 an27 cd27 ct27), sl27⟩)
    (c27 : PySem.W.codeIn K cd27 "smallest_row" = true)
    (k27 : PySem.W.keepIn K (.ref f27) = true)
    (d28 : PySem.W.nsIn K mainGlobals "steps_to" = some (some (.ref f28)))
    (l28 : K.lookup f28 = some ⟨oc28, od28, .func (PySem.W.fnOf "steps_to" "steps_to" (defArgs s_steps_to) (defBody s_steps_to) (defScope s_steps_to) .none kV28 dc28 pm28 an28 cd28 ct28), sl28⟩)
    (c28 : PySem.W.codeIn K cd28 "steps_to" = true)
    (k28 : PySem.W.keepIn K (.ref f28) = true)
    (d29 : PySem.W.nsIn K mainGlobals "row_down" = some (some (.ref f29)))
    (l29 : K.lookup f29 = some ⟨oc29, od29, .func (PySem.W.fnOf "row_down" "row_down" (defArgs s_row_down) (defBody s_row_down) (defScope s_row_down) .none kV29 dc29 pm29 an29 cd29 ct29), sl29⟩)
    (c29 : PySem.W.codeIn K cd29 "row_down" = true)
    (k29 : PySem.W.keepIn K (.ref f29) = true)
    (d30 : PySem.W.nsIn K mainGlobals "row_with" = some (some (.ref f30)))
    (l30 : K.lookup f30 = some ⟨oc30, od30, .func (PySem.W.fnOf "row_with" "row_with" (defArgs s_row_with) (defBody s_row_with) (defScope s_row_with) .none kV30 dc30 pm30 an30 cd30 ct30), sl30⟩)
    (c30 : PySem.W.codeIn K cd30 "row_with" = true)
    (k30 : PySem.W.keepIn K (.ref f30) = true)
    (d31 : PySem.W.nsIn K mainGlobals "_law_read" = some (some (.ref f31)))
    (l31 : K.lookup f31 = some ⟨oc31, od31, .func (PySem.W.fnOf "_law_read" "_law_read" (defArgs s__law_read) (defBody s__law_read) (defScope s__law_read) .none kV31 dc31 pm31 an31 cd31 ct31), sl31⟩)
    (c31 : PySem.W.codeIn K cd31 "_law_read" = true)
    (k31 : PySem.W.keepIn K (.ref f31) = true)
    (d32 : PySem.W.nsIn K mainGlobals "_law_body" = some (some (.ref f32)))
    (l32 : K.lookup f32 = some ⟨oc32, od32, .func (PySem.W.fnOf "_law_body" "_law_body" (defArgs s__law_body) (defBody s__law_body) (defScope s__law_body) .none kV32 dc32 pm32 an32 cd32 ct32), sl32⟩)
    (c32 : PySem.W.codeIn K cd32 "_law_body" = true)
    (k32 : PySem.W.keepIn K (.ref f32) = true)
    (d33 : PySem.W.nsIn K mainGlobals "_law_more" = some (some (.ref f33)))
    (l33 : K.lookup f33 = some ⟨oc33, od33, .func (PySem.W.fnOf "_law_more" "_law_more" (defArgs s__law_more) (defBody s__law_more) (defScope s__law_more) .none kV33 dc33 pm33 an33 cd33 ct33), sl33⟩)
    (c33 : PySem.W.codeIn K cd33 "_law_more" = true)
    (k33 : PySem.W.keepIn K (.ref f33) = true)
    (d34 : PySem.W.nsIn K mainGlobals "_law_steps" = some (some (.ref f34)))
    (l34 : K.lookup f34 = some ⟨oc34, od34, .func (PySem.W.fnOf "_law_steps" "_law_steps" (defArgs s__law_steps) (defBody s__law_steps) (defScope s__law_steps) .none kV34 dc34 pm34 an34 cd34 ct34), sl34⟩)
    (c34 : PySem.W.codeIn K cd34 "_law_steps" = true)
    (k34 : PySem.W.keepIn K (.ref f34) = true)
    (d35 : PySem.W.nsIn K mainGlobals "_law_mores" = some (some (.ref f35)))
    (l35 : K.lookup f35 = some ⟨oc35, od35, .func (PySem.W.fnOf "_law_mores" "_law_mores" (defArgs s__law_mores) (defBody s__law_mores) (defScope s__law_mores) .none kV35 dc35 pm35 an35 cd35 ct35), sl35⟩)
    (c35 : PySem.W.codeIn K cd35 "_law_mores" = true)
    (k35 : PySem.W.keepIn K (.ref f35) = true)
    (d36 : PySem.W.nsIn K mainGlobals "law" = some (some (.ref f36)))
    (l36 : K.lookup f36 = some ⟨oc36, od36, .func (PySem.W.fnOf "law" "law" (defArgs s_law) (defBody s_law) (defScope s_law) .none kV36 dc36 pm36 an36 cd36 ct36), sl36⟩)
    (c36 : PySem.W.codeIn K cd36 "law" = true)
    (k36 : PySem.W.keepIn K (.ref f36) = true)
    (iFIRST_CODE : PySem.W.nsIn K mainGlobals "FIRST_CODE" = some (some (.int 32 tFIRST_CODE)))
    (iLAST_CODE : PySem.W.nsIn K mainGlobals "LAST_CODE" = some (some (.int 126 tLAST_CODE)))
    (iPERCENT_CODE : PySem.W.nsIn K mainGlobals "PERCENT_CODE" = some (some (.int 37 tPERCENT_CODE)))
    (iMOST_LETTERS : PySem.W.nsIn K mainGlobals "MOST_LETTERS" = some (some (.int 8 tMOST_LETTERS)))
    (iMOST_PARTS : PySem.W.nsIn K mainGlobals "MOST_PARTS" = some (some (.int 6 tMOST_PARTS)))
    (iMOST_RULES : PySem.W.nsIn K mainGlobals "MOST_RULES" = some (some (.int 60 tMOST_RULES)))
    (iMOST_NUMBERS : PySem.W.nsIn K mainGlobals "MOST_NUMBERS" = some (some (.int 1000 tMOST_NUMBERS)))
    (zisinstance : PySem.W.nsIn K mainGlobals "isinstance" = some none)
    (zint : PySem.W.nsIn K mainGlobals "int" = some none)
    (zbool : PySem.W.nsIn K mainGlobals "bool" = some none)
    (zord : PySem.W.nsIn K mainGlobals "ord" = some none)
    (zstr : PySem.W.nsIn K mainGlobals "str" = some none)
    (zlen : PySem.W.nsIn K mainGlobals "len" = some none)
    (zall : PySem.W.nsIn K mainGlobals "all" = some none)
    (ztuple : PySem.W.nsIn K mainGlobals "tuple" = some none)
    (zlist : PySem.W.nsIn K mainGlobals "list" = some none)
    (zrange : PySem.W.nsIn K mainGlobals "range" = some none)
    (zenumerate : PySem.W.nsIn K mainGlobals "enumerate" = some none)
    (zmin : PySem.W.nsIn K mainGlobals "min" = some none)
    (zmax : PySem.W.nsIn K mainGlobals "max" = some none)
    (zreversed : PySem.W.nsIn K mainGlobals "reversed" = some none)
    (zsum : PySem.W.nsIn K mainGlobals "sum" = some none)
    (xNoGrammar : PySem.W.excIn K c_NoGrammar [.type "ValueError", .type "Exception", .type "BaseException", .type "object"] "ValueError.__new__" = true)
    (xNoRow : PySem.W.excIn K c_NoRow [.type "ValueError", .type "Exception", .type "BaseException", .type "object"] "ValueError.__new__" = true)
    (xTooGreat : PySem.W.excIn K c_TooGreat [.type "ValueError", .type "Exception", .type "BaseException", .type "object"] "ValueError.__new__" = true) :
    ∃ fd : FuncData, (∀ (s : Shared) (v : Value), BindsTo s fd ⟨[v], []⟩ [("_law_script", v)]) ∧ ∀ base : Heap, K.In base → base.Ns mainGlobals mg → FnOk l.prog w K mg base CX0 11 fa fd ["_law_script"] (spLaw K) := by
  have e := hfa.symm.trans (PySem.W.mg_of X G d36)
  cases e
  have m := fun {x : Str} {v : Value} (h : PySem.W.nsIn K mainGlobals x = some (some v)) => PySem.W.mg_of X G h
  have z := fun {x : Str} (h : PySem.W.nsIn K mainGlobals x = some none) => PySem.W.mg_none_of X G h
  have T : Txt K mg ⟨c_NoGrammar, c_NoRow, c_TooGreat, 0⟩ := ⟨z zisinstance, z zint, z zbool, z zord, z zstr, z zlen, z zall, z ztuple, z zlist, z zrange, z zenumerate, z zmin, z zmax, z zreversed, z zsum, ⟨_, m iFIRST_CODE⟩, ⟨_, m iLAST_CODE⟩, ⟨_, m iPERCENT_CODE⟩, ⟨_, m iMOST_LETTERS⟩, ⟨_, m iMOST_PARTS⟩, ⟨_, m iMOST_RULES⟩, ⟨_, m iMOST_NUMBERS⟩, m nNoGrammar, m nNoRow, m nTooGreat, xNoGrammar, xNoRow, xTooGreat⟩
  have F0 := fun_mk (st := s_is_whole) l0 c0 k0
  have B0 := F0.binds (ps := ["thing"]) fun _ _ _ _ _ _ us hl => match us, hl with | [_], _ => rfl
  have F1 := fun_mk (st := s_stands_in_texts) l1 c1 k1
  have B1 := F1.binds (ps := ["sign"]) fun _ _ _ _ _ _ us hl => match us, hl with | [_], _ => rfl
  have F2 := fun_mk (st := s_is_sign) l2 c2 k2
  have B2 := F2.binds (ps := ["thing"]) fun _ _ _ _ _ _ us hl => match us, hl with | [_], _ => rfl
  have F3 := fun_mk (st := s_is_name) l3 c3 k3
  have B3 := F3.binds (ps := ["thing"]) fun _ _ _ _ _ _ us hl => match us, hl with | [_], _ => rfl
  have F4 := fun_mk (st := s_is_part) l4 c4 k4
  have B4 := F4.binds (ps := ["thing"]) fun _ _ _ _ _ _ us hl => match us, hl with | [_], _ => rfl
  have F5 := fun_mk (st := s_is_worth) l5 c5 k5
  have B5 := F5.binds (ps := ["thing"]) fun _ _ _ _ _ _ us hl => match us, hl with | [_], _ => rfl
  have F6 := fun_mk (st := s_are_parts) l6 c6 k6
  have B6 := F6.binds (ps := ["thing"]) fun _ _ _ _ _ _ us hl => match us, hl with | [_], _ => rfl
  have F7 := fun_mk (st := s_is_rule) l7 c7 k7
  have B7 := F7.binds (ps := ["thing"]) fun _ _ _ _ _ _ us hl => match us, hl with | [_], _ => rfl
  have F8 := fun_mk (st := s_is_grammar) l8 c8 k8
  have B8 := F8.binds (ps := ["thing"]) fun _ _ _ _ _ _ us hl => match us, hl with | [_], _ => rfl
  have F9 := fun_mk (st := s_checked) l9 c9 k9
  have B9 := F9.binds (ps := ["thing"]) fun _ _ _ _ _ _ us hl => match us, hl with | [_], _ => rfl
  have F10 := fun_mk (st := s__law_cell_at) l10 c10 k10
  have B10 := F10.binds (ps := ["_law_script", "_law_k"]) fun _ _ _ _ _ _ us hl => match us, hl with | [_, _], _ => rfl
  have F11 := fun_mk (st := s__law_mixed) l11 c11 k11
  have B11 := F11.binds (ps := ["_law_script", "_law_k"]) fun _ _ _ _ _ _ us hl => match us, hl with | [_, _], _ => rfl
  have F12 := fun_mk (st := s__law_signs) l12 c12 k12
  have B12 := F12.binds (ps := ["_law_cell"]) fun _ _ _ _ _ _ us hl => match us, hl with | [_], _ => rfl
  have F13 := fun_mk (st := s__law_names) l13 c13 k13
  have B13 := F13.binds (ps := ["_law_cell"]) fun _ _ _ _ _ _ us hl => match us, hl with | [_], _ => rfl
  have F14 := fun_mk (st := s__law_worth) l14 c14 k14
  have B14 := F14.binds (ps := ["_law_cell"]) fun _ _ _ _ _ _ us hl => match us, hl with | [_], _ => rfl
  have F15 := fun_mk (st := s__law_parts) l15 c15 k15
  have B15 := F15.binds (ps := ["_law_cell", "_law_menu", "_law_most"]) fun _ _ _ _ _ _ us hl => match us, hl with | [_, _, _], _ => rfl
  have F16 := fun_mk (st := s_size_of_part) l16 c16 k16
  have B16 := F16.binds (ps := ["sizes", "part", "sign_size"]) fun _ _ _ _ _ _ us hl => match us, hl with | [_, _, _], _ => rfl
  have F17 := fun_mk (st := s_size_of_rule) l17 c17 k17
  have B17 := F17.binds (ps := ["sizes", "rule", "sign_size"]) fun _ _ _ _ _ _ us hl => match us, hl with | [_, _, _], _ => rfl
  have F18 := fun_mk (st := s_least_sizes) l18 c18 k18
  have B18 := F18.binds (ps := ["rules", "sign_size"]) fun _ _ _ _ _ _ us hl => match us, hl with | [_, _], _ => rfl
  have F19 := fun_mk (st := s_least) l19 c19 k19
  have B19 := F19.binds (ps := ["grammar"]) fun _ _ _ _ _ _ us hl => match us, hl with | [_], _ => rfl
  have F20 := fun_mk (st := s_ways_down) l20 c20 k20
  have B20 := F20.binds (ps := ["rules", "sizes"]) fun _ _ _ _ _ _ us hl => match us, hl with | [_, _], _ => rfl
  have F21 := fun_mk (st := s_sizes_with) l21 c21 k21
  have B21 := F21.binds (ps := ["rules", "sizes"]) fun _ _ _ _ _ _ us hl => match us, hl with | [_, _], _ => rfl
  have F22 := fun_mk (st := s_needed) l22 c22 k22
  have B22 := F22.binds (ps := ["grammar"]) fun _ _ _ _ _ _ us hl => match us, hl with | [_], _ => rfl
  have F23 := fun_mk (st := s__law_bare) l23 c23 k23
  have B23 := F23.binds (ps := ["_law_script", "_law_many", "_law_most"]) fun _ _ _ _ _ _ us hl => match us, hl with | [_, _, _], _ => rfl
  have F24 := fun_mk (st := s__law_whole) l24 c24 k24
  have B24 := F24.binds (ps := ["_law_found"]) fun _ _ _ _ _ _ us hl => match us, hl with | [_], _ => rfl
  have F25 := fun_mk (st := s__law_numbers) l25 c25 k25
  have B25 := F25.binds (ps := ["_law_found"]) fun _ _ _ _ _ _ us hl => match us, hl with | [_], _ => rfl
  have F26 := fun_mk (st := s_smallest_rules) l26 c26 k26
  have B26 := F26.binds (ps := ["rules", "sizes"]) fun _ _ _ _ _ _ us hl => match us, hl with | [_, _], _ => rfl
  have F27 := fun_mk (st := s_smallest_row) l27 c27 k27
  have B27 := F27.binds (ps := ["rules", "smallest", "parts"]) fun _ _ _ _ _ _ us hl => match us, hl with | [_, _, _], _ => rfl
  have F28 := fun_mk (st := s_steps_to) l28 c28 k28
  have B28 := F28.binds (ps := ["rules", "steps", "head"]) fun _ _ _ _ _ _ us hl => match us, hl with | [_, _, _], _ => rfl
  have F29 := fun_mk (st := s_row_down) l29 c29 k29
  have B29 := F29.binds (ps := ["rules", "sizes", "number"]) fun _ _ _ _ _ _ us hl => match us, hl with | [_, _, _], _ => rfl
  have F30 := fun_mk (st := s_row_with) l30 c30 k30
  have B30 := F30.binds (ps := ["grammar", "number"]) fun _ _ _ _ _ _ us hl => match us, hl with | [_, _], _ => rfl
  have F31 := fun_mk (st := s__law_read) l31 c31 k31
  have B31 := F31.binds (ps := ["_law_grammar", "_law_row"]) fun _ _ _ _ _ _ us hl => match us, hl with | [_, _], _ => rfl
  have F32 := fun_mk (st := s__law_body) l32 c32 k32
  have B32 := F32.binds (ps := ["_law_rule", "_law_sizes"]) fun _ _ _ _ _ _ us hl => match us, hl with | [_, _], _ => rfl
  have F33 := fun_mk (st := s__law_more) l33 c33 k33
  have B33 := F33.binds (ps := ["_law_grammar", "_law_number", "_law_sizes"]) fun _ _ _ _ _ _ us hl => match us, hl with | [_, _, _], _ => rfl
  have F34 := fun_mk (st := s__law_steps) l34 c34 k34
  have B34 := F34.binds (ps := ["_law_grammar", "_law_some", "_law_sizes", "_law_more_here", "_law_number"]) fun _ _ _ _ _ _ us hl => match us, hl with | [_, _, _, _, _], _ => rfl
  have F35 := fun_mk (st := s__law_mores) l35 c35 k35
  have B35 := F35.binds (ps := ["_law_grammar", "_law_some", "_law_sizes"]) fun _ _ _ _ _ _ us hl => match us, hl with | [_, _, _], _ => rfl
  have F36 := fun_mk (st := s_law) l36 c36 k36
  have U_is_whole : Used l.prog w K mg CX0 1 "is_whole" ["thing"] (spIs isWholeD) := ⟨⟨f0, _, fun base => ok_is_whole F0 T, m d0, k0, B0⟩⟩
  have U_stands_in_texts : Used l.prog w K mg CX0 1 "stands_in_texts" ["sign"] (spStands) := ⟨⟨f1, _, fun base => ok_stands_in_texts F1 T, m d1, k1, B1⟩⟩
  have U_is_sign : Used l.prog w K mg CX0 2 "is_sign" ["thing"] (spIs isSignD) := ⟨⟨f2, _, fun base => ok_is_sign F2 T U_stands_in_texts, m d2, k2, B2⟩⟩
  have U_is_name : Used l.prog w K mg CX0 1 "is_name" ["thing"] (spIs isNameD) := ⟨⟨f3, _, fun base => ok_is_name F3 T, m d3, k3, B3⟩⟩
  have U_is_part : Used l.prog w K mg CX0 3 "is_part" ["thing"] (spIs isPartD) := ⟨⟨f4, _, fun base => ok_is_part F4 T U_is_sign U_is_name, m d4, k4, B4⟩⟩
  have U_is_worth : Used l.prog w K mg CX0 2 "is_worth" ["thing"] (spIs isWorthD) := ⟨⟨f5, _, fun base => ok_is_worth F5 T U_is_whole, m d5, k5, B5⟩⟩
  have U_are_parts : Used l.prog w K mg CX0 4 "are_parts" ["thing"] (spIs arePartsD) := ⟨⟨f6, _, fun base => ok_are_parts F6 T U_is_part, m d6, k6, B6⟩⟩
  have U_is_rule : Used l.prog w K mg CX0 5 "is_rule" ["thing"] (spIs isRuleD) := ⟨⟨f7, _, fun base => ok_is_rule F7 T U_is_name U_are_parts U_is_worth, m d7, k7, B7⟩⟩
  have U_is_grammar : Used l.prog w K mg CX0 6 "is_grammar" ["thing"] (spIs isGramD) := ⟨⟨f8, _, fun base => ok_is_grammar F8 T U_is_rule, m d8, k8, B8⟩⟩
  have U_checked : Used l.prog w K mg (CXo l.prog w) 7 "checked" ["thing"] (spChecked c_NoGrammar) := ⟨⟨f9, _, fun base => ok_checked F9 T U_is_grammar, m d9, k9, B9⟩⟩
  have U__law_cell_at : Used l.prog w K mg CX0 1 "_law_cell_at" ["_law_script", "_law_k"] (spCell K) := ⟨⟨f10, _, fun base => ok__law_cell_at F10 T, m d10, k10, B10⟩⟩
  have U__law_mixed : Used l.prog w K mg CX0 2 "_law_mixed" ["_law_script", "_law_k"] (spMixed K) := ⟨⟨f11, _, fun base => ok__law_mixed F11 T U__law_cell_at, m d11, k11, B11⟩⟩
  have U__law_signs : Used l.prog w K mg CX0 1 "_law_signs" ["_law_cell"] (spSigns) := ⟨⟨f12, _, fun base => ok__law_signs F12 T, m d12, k12, B12⟩⟩
  have U__law_names : Used l.prog w K mg CX0 1 "_law_names" ["_law_cell"] (spNames) := ⟨⟨f13, _, fun base => ok__law_names F13 T, m d13, k13, B13⟩⟩
  have U__law_worth : Used l.prog w K mg CX0 1 "_law_worth" ["_law_cell"] (spWorthL) := ⟨⟨f14, _, fun base => ok__law_worth F14 T, m d14, k14, B14⟩⟩
  have U__law_parts : Used l.prog w K mg CX0 1 "_law_parts" ["_law_cell", "_law_menu", "_law_most"] (spParts) := ⟨⟨f15, _, fun base => ok__law_parts F15 T, m d15, k15, B15⟩⟩
  have U_size_of_part : Used l.prog w K mg CX0 1 "size_of_part" ["sizes", "part", "sign_size"] (spSizeP) := ⟨⟨f16, _, fun base => ok_size_of_part F16 T, m d16, k16, B16⟩⟩
  have U_size_of_rule : Used l.prog w K mg CX0 2 "size_of_rule" ["sizes", "rule", "sign_size"] (spSizeR) := ⟨⟨f17, _, fun base => ok_size_of_rule F17 T U_size_of_part, m d17, k17, B17⟩⟩
  have U_least_sizes : Used l.prog w K mg CX0 3 "least_sizes" ["rules", "sign_size"] (spLeastS) := ⟨⟨f18, _, fun base => ok_least_sizes F18 T U_size_of_rule, m d18, k18, B18⟩⟩
  have U_least : Used l.prog w K mg (CXo l.prog w) 8 "least" ["grammar"] (spLeast c_NoGrammar) := ⟨⟨f19, _, fun base => ok_least F19 T U_least_sizes U_checked, m d19, k19, B19⟩⟩
  have U_ways_down : Used l.prog w K mg CX0 3 "ways_down" ["rules", "sizes"] (spWays) := ⟨⟨f20, _, fun base => ok_ways_down F20 T U_size_of_rule, m d20, k20, B20⟩⟩
  have U_sizes_with : Used l.prog w K mg CX0 4 "sizes_with" ["rules", "sizes"] (spSizesW) := ⟨⟨f21, _, fun base => ok_sizes_with F21 T U_ways_down U_size_of_rule, m d21, k21, B21⟩⟩
  have U_needed : Used l.prog w K mg (CXo l.prog w) 8 "needed" ["grammar"] (spNeeded c_NoGrammar) := ⟨⟨f22, _, fun base => ok_needed F22 T U_checked U_sizes_with U_least_sizes, m d22, k22, B22⟩⟩
  have U__law_bare : Used l.prog w K mg CX0 3 "_law_bare" ["_law_script", "_law_many", "_law_most"] (spBare K) := ⟨⟨f23, _, fun base => ok__law_bare F23 T U__law_names U__law_mixed U__law_signs U__law_parts U__law_worth U__law_cell_at, m d23, k23, B23⟩⟩
  have U__law_whole : Used l.prog w K mg CX0 1 "_law_whole" ["_law_found"] (spWhole) := ⟨⟨f24, _, fun base => ok__law_whole F24 T, m d24, k24, B24⟩⟩
  have U__law_numbers : Used l.prog w K mg CX0 2 "_law_numbers" ["_law_found"] (spNumbers) := ⟨⟨f25, _, fun base => ok__law_numbers F25 T U__law_whole, m d25, k25, B25⟩⟩
  have U_smallest_rules : Used l.prog w K mg CX0 3 "smallest_rules" ["rules", "sizes"] (spSmall) := ⟨⟨f26, _, fun base => ok_smallest_rules F26 T U_size_of_rule, m d26, k26, B26⟩⟩
  have U_smallest_row : Used l.prog w K mg CX0 2 "smallest_row" ["rules", "smallest", "parts"] (spSmallRow) := ⟨⟨f27, _, fun base => ok_smallest_row F27 T, m d27, k27, B27⟩⟩
  have U_steps_to : Used l.prog w K mg CX0 2 "steps_to" ["rules", "steps", "head"] (spStepsTo) := ⟨⟨f28, _, fun base => ok_steps_to F28 T, m d28, k28, B28⟩⟩
  have U_row_down : Used l.prog w K mg CX0 4 "row_down" ["rules", "sizes", "number"] (spRowDown) := ⟨⟨f29, _, fun base => ok_row_down F29 T U_smallest_rules U_steps_to U_ways_down U_smallest_row, m d29, k29, B29⟩⟩
  have U_row_with : Used l.prog w K mg (CXo l.prog w) 8 "row_with" ["grammar", "number"] (spRowWith) := ⟨⟨f30, _, fun base => ok_row_with F30 T U_checked U_least_sizes U_sizes_with U_row_down U_is_whole, m d30, k30, B30⟩⟩
  have U__law_read : Used l.prog w K mg CX0 2 "_law_read" ["_law_grammar", "_law_row"] (spRead) := ⟨⟨f31, _, fun base => ok__law_read F31 T, m d31, k31, B31⟩⟩
  have U__law_body : Used l.prog w K mg CX0 2 "_law_body" ["_law_rule", "_law_sizes"] (spBody) := ⟨⟨f32, _, fun base => ok__law_body F32 T, m d32, k32, B32⟩⟩
  have U__law_more : Used l.prog w K mg CX0 9 "_law_more" ["_law_grammar", "_law_number", "_law_sizes"] (spMore) := ⟨⟨f33, _, fun base => ok__law_more F33 T U_row_with U__law_body U__law_numbers U__law_read, m d33, k33, B33⟩⟩
  have U__law_steps : Used l.prog w K mg CX0 3 "_law_steps" ["_law_grammar", "_law_some", "_law_sizes", "_law_more_here", "_law_number"] (spSteps) := ⟨⟨f34, _, fun base => ok__law_steps F34 T U__law_body, m d34, k34, B34⟩⟩
  have U__law_mores : Used l.prog w K mg CX0 10 "_law_mores" ["_law_grammar", "_law_some", "_law_sizes"] (spMores) := ⟨⟨f35, _, fun base => ok__law_mores F35 T U__law_more, m d35, k35, B35⟩⟩
  exact ⟨PySem.W.fnOf "law" "law" (defArgs s_law) (defBody s_law) (defScope s_law) .none kV36 dc36 pm36 an36 cd36 ct36, fun s v => .of_eq rfl, fun base _ _ => ok_law F36 T U__law_bare U_needed U_least U__law_mores U__law_steps U__law_body U_row_with U__law_mixed⟩
theorem walk {l : PySem.W.OpenLaw} {q : Program} {loose : List Str} {XP : (Str → Option Value) → Heap → Prop} {YP : World → Heap → Prop} {d : DefRec} {K : Params → PySem.W.Frag} (hn : l.most = some 63) (hdf : d.params.defaults = [])
    (hY : ∀ (w : World) (h : Heap), YP w h → (K w.params).In h)
    (F : ∀ (w : World) (mg : Str → Option Value) (fa : Addr) (h : Heap), (K w.params).In h → h.Ns mainGlobals mg → mg d.name = some (.ref fa) →
      ∃ fd : FuncData, (∀ (s : Shared) (u : Value), BindsTo s fd ⟨[u], []⟩ [("_law_script", u)]) ∧ ∀ base : Heap, (K w.params).In base → base.Ns mainGlobals mg → FnOk l.prog w (K w.params) mg base CX0 11 fa fd ["_law_script"] (spLaw (K w.params))) :
    PySem.W.WalkO q loose XP YP l.row.toRowW d [] (fun f vs => PySem.call f vs) :=
  L2.walk_of (n := 63) (k := 11) (x := "_law_script") (CX := fun _ => CX0) (sp := fun w => spLaw (K w.params)) hn (by decide) hdf ⟨rfl, by decide, by decide⟩ hY F (fun _ _ a ns hl hO hS => law_start hl hO hS) fun _ _ _ _ _ z => z
end FR
open PySem PySem.W PyProof.Rows
def PySem.W.Fast.tw2231137078632661291 : Nat := 0
def PySem.W.Fast.tw1858640126365265200 : Nat := 0
def PySem.W.Fast.tw2607276342280485279 : Nat := 0
def PySem.W.Fast.tw9938180096139484053 : Nat := 0
def PySem.W.Fast.tw4378557668348696021 : Nat := 0
def PySem.W.Fast.tw17306537643487101074 : Nat := 0
def PySem.W.Fast.tw16399202285641867179 : Nat := 0
def PySem.W.Fast.tw8383050274416370472 : Nat := 0
def PySem.W.Fast.tw11833562673090554719 : Nat := 0
def PySem.W.Fast.tw15324593081764421352 : Nat := 0
def PySem.W.Fast.tw7300849493721885925 : Nat := 0
def PySem.W.Fast.tw18439125761784878517 : Nat := 0
def PySem.W.Fast.tw10845117369369816973 : Nat := 0
def PySem.W.Fast.tw13308693684827357361 : Nat := 0
set_option maxRecDepth 100000 in
set_option maxHeartbeats 0 in
theorem PySem.Challenge.cw_forestread_k14_whole_least_rows_holds : PySem.Challenge.rw_forestread_k14_whole_least_rows.Holds := by
  w_on; o_law; k_head; (case hw => w_witness2)
  k_fill
  refine FR.walk (l := PySem.Challenge.rw_forestread_k14_whole_least_rows) rfl rfl (fun w h Y => PySem.W.kIn_of Y) ?F
  case F =>
    intro w mg fa h KX G hmg
    refine' FR.all_mk KX G hmg ?nNoGrammar ?nNoRow ?nTooGreat ?d0 ?l0 ?c0 ?k0 ?d1 ?l1 ?c1 ?k1 ?d2 ?l2 ?c2 ?k2 ?d3 ?l3 ?c3 ?k3 ?d4 ?l4 ?c4 ?k4 ?d5 ?l5 ?c5 ?k5 ?d6 ?l6 ?c6 ?k6 ?d7 ?l7 ?c7 ?k7 ?d8 ?l8 ?c8 ?k8 ?d9 ?l9 ?c9 ?k9 ?d10 ?l10 ?c10 ?k10 ?d11 ?l11 ?c11 ?k11 ?d12 ?l12 ?c12 ?k12 ?d13 ?l13 ?c13 ?k13 ?d14 ?l14 ?c14 ?k14 ?d15 ?l15 ?c15 ?k15 ?d16 ?l16 ?c16 ?k16 ?d17 ?l17 ?c17 ?k17 ?d18 ?l18 ?c18 ?k18 ?d19 ?l19 ?c19 ?k19 ?d20 ?l20 ?c20 ?k20 ?d21 ?l21 ?c21 ?k21 ?d22 ?l22 ?c22 ?k22 ?d23 ?l23 ?c23 ?k23 ?d24 ?l24 ?c24 ?k24 ?d25 ?l25 ?c25 ?k25 ?d26 ?l26 ?c26 ?k26 ?d27 ?l27 ?c27 ?k27 ?d28 ?l28 ?c28 ?k28 ?d29 ?l29 ?c29 ?k29 ?d30 ?l30 ?c30 ?k30 ?d31 ?l31 ?c31 ?k31 ?d32 ?l32 ?c32 ?k32 ?d33 ?l33 ?c33 ?k33 ?d34 ?l34 ?c34 ?k34 ?d35 ?l35 ?c35 ?k35 ?d36 ?l36 ?c36 ?k36 ?iFIRST_CODE ?iLAST_CODE ?iPERCENT_CODE ?iMOST_LETTERS ?iMOST_PARTS ?iMOST_RULES ?iMOST_NUMBERS ?zisinstance ?zint ?zbool ?zord ?zstr ?zlen ?zall ?ztuple ?zlist ?zrange ?zenumerate ?zmin ?zmax ?zreversed ?zsum ?xNoGrammar ?xNoRow ?xTooGreat
    (case nNoGrammar => k_is)
    (case nNoRow => k_is)
    (case nTooGreat => k_is)
    (case d0 => k_is)
    (case l0 => k_is)
    (case c0 => k_is)
    (case k0 => k_is)
    (case d1 => k_is)
    (case l1 => k_is)
    (case c1 => k_is)
    (case k1 => k_is)
    (case d2 => k_is)
    (case l2 => k_is)
    (case c2 => k_is)
    (case k2 => k_is)
    (case d3 => k_is)
    (case l3 => k_is)
    (case c3 => k_is)
    (case k3 => k_is)
    (case d4 => k_is)
    (case l4 => k_is)
    (case c4 => k_is)
    (case k4 => k_is)
    (case d5 => k_is)
    (case l5 => k_is)
    (case c5 => k_is)
    (case k5 => k_is)
    (case d6 => k_is)
    (case l6 => k_is)
    (case c6 => k_is)
    (case k6 => k_is)
    (case d7 => k_is)
    (case l7 => k_is)
    (case c7 => k_is)
    (case k7 => k_is)
    (case d8 => k_is)
    (case l8 => k_is)
    (case c8 => k_is)
    (case k8 => k_is)
    (case d9 => k_is)
    (case l9 => k_is)
    (case c9 => k_is)
    (case k9 => k_is)
    (case d10 => k_is)
    (case l10 => k_is)
    (case c10 => k_is)
    (case k10 => k_is)
    (case d11 => k_is)
    (case l11 => k_is)
    (case c11 => k_is)
    (case k11 => k_is)
    (case d12 => k_is)
    (case l12 => k_is)
    (case c12 => k_is)
    (case k12 => k_is)
    (case d13 => k_is)
    (case l13 => k_is)
    (case c13 => k_is)
    (case k13 => k_is)
    (case d14 => k_is)
    (case l14 => k_is)
    (case c14 => k_is)
    (case k14 => k_is)
    (case d15 => k_is)
    (case l15 => k_is)
    (case c15 => k_is)
    (case k15 => k_is)
    (case d16 => k_is)
    (case l16 => k_is)
    (case c16 => k_is)
    (case k16 => k_is)
    (case d17 => k_is)
    (case l17 => k_is)
    (case c17 => k_is)
    (case k17 => k_is)
    (case d18 => k_is)
    (case l18 => k_is)
    (case c18 => k_is)
    (case k18 => k_is)
    (case d19 => k_is)
    (case l19 => k_is)
    (case c19 => k_is)
    (case k19 => k_is)
    (case d20 => k_is)
    (case l20 => k_is)
    (case c20 => k_is)
    (case k20 => k_is)
    (case d21 => k_is)
    (case l21 => k_is)
    (case c21 => k_is)
    (case k21 => k_is)
    (case d22 => k_is)
    (case l22 => k_is)
    (case c22 => k_is)
    (case k22 => k_is)
    (case d23 => k_is)
    (case l23 => k_is)
    (case c23 => k_is)
    (case k23 => k_is)
    (case d24 => k_is)
    (case l24 => k_is)
    (case c24 => k_is)
    (case k24 => k_is)
    (case d25 => k_is)
    (case l25 => k_is)
    (case c25 => k_is)
    (case k25 => k_is)
    (case d26 => k_is)
    (case l26 => k_is)
    (case c26 => k_is)
    (case k26 => k_is)
    (case d27 => k_is)
    (case l27 => k_is)
    (case c27 => k_is)
    (case k27 => k_is)
    (case d28 => k_is)
    (case l28 => k_is)
    (case c28 => k_is)
    (case k28 => k_is)
    (case d29 => k_is)
    (case l29 => k_is)
    (case c29 => k_is)
    (case k29 => k_is)
    (case d30 => k_is)
    (case l30 => k_is)
    (case c30 => k_is)
    (case k30 => k_is)
    (case d31 => k_is)
    (case l31 => k_is)
    (case c31 => k_is)
    (case k31 => k_is)
    (case d32 => k_is)
    (case l32 => k_is)
    (case c32 => k_is)
    (case k32 => k_is)
    (case d33 => k_is)
    (case l33 => k_is)
    (case c33 => k_is)
    (case k33 => k_is)
    (case d34 => k_is)
    (case l34 => k_is)
    (case c34 => k_is)
    (case k34 => k_is)
    (case d35 => k_is)
    (case l35 => k_is)
    (case c35 => k_is)
    (case k35 => k_is)
    (case d36 => k_is)
    (case l36 => k_is)
    (case c36 => k_is)
    (case k36 => k_is)
    (case iFIRST_CODE => k_is)
    (case iLAST_CODE => k_is)
    (case iPERCENT_CODE => k_is)
    (case iMOST_LETTERS => k_is)
    (case iMOST_PARTS => k_is)
    (case iMOST_RULES => k_is)
    (case iMOST_NUMBERS => k_is)
    (case zisinstance => k_is)
    (case zint => k_is)
    (case zbool => k_is)
    (case zord => k_is)
    (case zstr => k_is)
    (case zlen => k_is)
    (case zall => k_is)
    (case ztuple => k_is)
    (case zlist => k_is)
    (case zrange => k_is)
    (case zenumerate => k_is)
    (case zmin => k_is)
    (case zmax => k_is)
    (case zreversed => k_is)
    (case zsum => k_is)
    (case xNoGrammar => k_exc)
    (case xNoRow => k_exc)
    (case xTooGreat => k_exc)
